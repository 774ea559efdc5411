/-
  Texts that the proof leans on.
-/
import Derived.Test.YtehgnckgmdkfmaaDoorJ9
import Derived.Test.YtehgnckgmdkfmaaDoorJ2
import Derived.Test.YtehgnckgmdkfmaaDoorJ6
import Derived.Deep.Cut
import Derived.Deep.CutRange
import Derived.DeepKeys
import Derived.Laws.IdiomCopy
import Derived.Deep.RegionWith
import Derived.Test.YtehgnckgmdkfmaaDoorJ5
set_option linter.unusedVariables false
set_option linter.unusedSectionVars false
set_option linter.unusedSimpArgs false
set_option maxRecDepth 20000
namespace Go.Proofs.YtehgnckgmdkfmaaDoor
open Go.RowKit
theorem lt_below {n g : Nat} {W W' : World} (hb : Below n W W') (h : g < W.heap.size) : g < W'.heap.size := Nat.lt_of_lt_of_le h hb.size
theorem bnext {w0 W W' : World} (h : Below w0.heap.size w0 W) (hb : Below W.heap.size W W') : Below w0.heap.size w0 W' := h.trans (hb.mono h.size)
theorem cell_set_map (W : World) (b i : Nat) (v : Value) : (W.setCell ⟨b, i, none⟩ v).cell? ⟨b, i, none⟩ = (W.cell? ⟨b, i, none⟩).map fun _ => v := by
  unfold World.cell? World.setCell
  simp only [Array.getElem?_modify, if_true]
  cases h : W.heap[b]? with
  | none => simp
  | some o =>
    cases o with
    | cells c e fr =>
      simp only [Option.map_some, Option.isSome_none, Bool.false_eq_true, if_false]
      by_cases hi : i < c.size
      · simp [hi]
      · simp [hi]
    | _ => simp
/-- a datum: class, sign, signal, exponent, coefficient -/
structure Dat where
  c : Int
  s : Bool
  g : Bool
  x : Int
  k : Nat
abbrev DV (c : Int) (s g : Bool) (x : Int) (k : Nat) : Value := .agg #[.int .i64 c, .bool s, .bool g, .int .i64 x, .int .u64 (W4 k 0), .int .u64 (W4 k 1), .int .u64 (W4 k 2), .int .u64 (W4 k 3)]
abbrev Dat.v (d : Dat) : Value := DV d.c d.s d.g d.x d.k
theorem W4_zero (i : Nat) : W4 0 i = 0 := by unfold W4; simp
/-- what the pattern with that fraction means, the exponent all ones -/
def spc (f : Nat) (s : Bool) (F : Nat) : Dat := if F = 0 then ⟨2, s, false, 0, 0⟩ else if F < 2 ^ (f - 1) then ⟨3, s, true, 0, F⟩ else ⟨3, s, false, 0, F - 2 ^ (f - 1)⟩
/-- a decimal format: T's bits, G's bits behind the five, declets, the least exponent, dense -/
structure DF where
  t : Nat
  w : Nat
  j : Nat
  l : Int
  dn : Bool
def DF.ok (f : DF) : Prop := (f.t = 20 ∧ f.w = 6 ∧ f.j = 2 ∧ f.l = -101) ∨ (f.t = 50 ∧ f.w = 8 ∧ f.j = 5 ∧ f.l = -398) ∨ (f.t = 110 ∧ f.w = 12 ∧ f.j = 11 ∧ f.l = -6176)
/-- the fields of a pattern -/
def vR (f : DF) (B : Nat) : Nat := B % 2 ^ f.t
def vG (f : DF) (B : Nat) : Nat := B / 2 ^ f.t % 2 ^ (f.w + 5)
def vS (f : DF) (B : Nat) : Bool := decide (B / 2 ^ (f.t + (f.w + 5)) % 2 = 1)
/-- the five bits -/
def vV (w G : Nat) : Nat := G / 2 ^ w
/-- the exponent's field, the first digit or bits -/
def vF (dn : Bool) (w G : Nat) : Nat :=
  if dn then (if vV w G < 24 then vV w G / 8 * 2 ^ w + G % 2 ^ w else vV w G / 2 % 4 * 2 ^ w + G % 2 ^ w)
  else (if vV w G < 24 then G / 8 else G / 2 % 2 ^ (w + 2))
def vL (dn : Bool) (w G : Nat) : Nat :=
  if dn then (if vV w G < 24 then vV w G % 8 else 8 + vV w G % 2) else (if vV w G < 24 then G % 8 else 8 + G % 2)
/-- the tail's number -/
def vT (f : DF) (R : Nat) : Nat := if f.dn then dlU f.j R else R
/-- what the first digit counts -/
def vQ (f : DF) : Nat := if f.dn then 10 ^ (3 * f.j) else 2 ^ f.t
/-- what fields mean -/
def vD (f : DF) (s : Bool) (G R : Nat) : Dat :=
  if vV f.w G = 30 then ⟨2, s, false, 0, 0⟩
  else if vV f.w G = 31 then ⟨3, s, decide (G / 2 ^ (f.w - 1) % 2 = 1), 0, if vT f R < 10 ^ (3 * f.j) then vT f R else 0⟩
  else ⟨1, s, false, (vF f.dn f.w G : Int) + f.l, if vL f.dn f.w G * vQ f + vT f R < 10 ^ (3 * f.j + 1) then vL f.dn f.w G * vQ f + vT f R else 0⟩
/-- what a pattern means -/
def vM (f : DF) (B : Nat) : Dat := vD f (vS f B) (vG f B) (vR f B)
/-- a datum is the format's -/
def vI (f : DF) (d : Dat) : Prop :=
  (d.c = 1 ∧ d.g = false ∧ d.k < 10 ^ (3 * f.j + 1) ∧ f.l ≤ d.x ∧ d.x ≤ f.l + 3 * 2 ^ f.w - 1) ∨ (d.c = 2 ∧ d.g = false ∧ d.k = 0 ∧ d.x = 0) ∨ (d.c = 3 ∧ d.x = 0 ∧ d.k < 10 ^ (3 * f.j))
/-- G of an exponent's field and a first digit -/
def vN (dn : Bool) (w E a : Nat) : Nat :=
  if dn then (if 8 ≤ a then 24 + E / 2 ^ w * 2 + a % 2 else E / 2 ^ w * 8 + a) * 2 ^ w + E % 2 ^ w
  else (if 8 ≤ a then 3 * 2 ^ (w + 3) + E * 2 + a % 2 else E * 8 + a)
/-- a datum's fields -/
def vPG (f : DF) (d : Dat) : Nat :=
  if d.c = 2 then 30 * 2 ^ f.w else if d.c = 3 then 31 * 2 ^ f.w + (if d.g then 2 ^ (f.w - 1) else 0)
  else vN f.dn f.w (d.x - f.l).toNat (d.k / vQ f)
def vPR (f : DF) (d : Dat) : Nat :=
  if d.c = 2 then 0 else if d.c = 3 then (if f.dn then dlP f.j d.k else d.k)
  else if f.dn then dlP f.j (d.k % 10 ^ (3 * f.j)) else d.k % 2 ^ f.t
/-- a datum's pattern -/
def vP (f : DF) (d : Dat) : Nat := (if d.s then 2 ^ (f.t + (f.w + 5)) else 0) + vPG f d * 2 ^ f.t + vPR f d

theorem ten3 (j : Nat) : (10 : Nat) ^ (3 * j) = 1000 ^ j := by rw [Nat.pow_mul]
theorem DF.ok.t10 {f : DF} (h : f.ok) : f.t = 10 * f.j := by
  rcases h with ⟨h1, h2, h3, h4⟩ | ⟨h1, h2, h3, h4⟩ | ⟨h1, h2, h3, h4⟩ <;> omega
theorem DF.ok.pt {f : DF} (h : f.ok) : 2 ^ f.t = 1024 ^ f.j := by rw [h.t10, Nat.pow_mul]
/-- the fields of a pattern that is laid of them -/
theorem v_parts (f : DF) (s : Bool) {G R : Nat} (hG : G < 2 ^ (f.w + 5)) (hR : R < 2 ^ f.t) :
    vR f ((if s then 2 ^ (f.t + (f.w + 5)) else 0) + G * 2 ^ f.t + R) = R ∧ vG f ((if s then 2 ^ (f.t + (f.w + 5)) else 0) + G * 2 ^ f.t + R) = G ∧ vS f ((if s then 2 ^ (f.t + (f.w + 5)) else 0) + G * 2 ^ f.t + R) = s := by
  have e : (if s then 2 ^ (f.t + (f.w + 5)) else 0) + G * 2 ^ f.t + R = ((if s then 1 else 0) * 2 ^ (f.w + 5) + G) * 2 ^ f.t + R := by
    cases s
    · simp
    · simp only [if_true, Nat.one_mul, Nat.add_mul]
      rw [← Nat.pow_add, Nat.add_comm (f.w + 5) f.t]
  rw [e]
  have hT : 0 < 2 ^ f.t := Nat.two_pow_pos _
  have hH : 0 < 2 ^ (f.w + 5) := Nat.two_pow_pos _
  have h1 : (((if s then 1 else 0) * 2 ^ (f.w + 5) + G) * 2 ^ f.t + R) % 2 ^ f.t = R := by rw [Nat.mul_comm, Nat.mul_add_mod, Nat.mod_eq_of_lt hR]
  have h2 : (((if s then 1 else 0) * 2 ^ (f.w + 5) + G) * 2 ^ f.t + R) / 2 ^ f.t = (if s then 1 else 0) * 2 ^ (f.w + 5) + G := by rw [Nat.mul_comm, Nat.mul_add_div hT, Nat.div_eq_of_lt hR, Nat.add_zero]
  have h3 : ((if s then 1 else 0) * 2 ^ (f.w + 5) + G) % 2 ^ (f.w + 5) = G := by rw [Nat.mul_comm, Nat.mul_add_mod, Nat.mod_eq_of_lt hG]
  have h4 : ((if s then 1 else 0) * 2 ^ (f.w + 5) + G) / 2 ^ (f.w + 5) = (if s then 1 else 0) := by rw [Nat.mul_comm, Nat.mul_add_div hH, Nat.div_eq_of_lt hG, Nat.add_zero]
  refine ⟨h1, ?_, ?_⟩
  · unfold vG; rw [h2, h3]
  · unfold vS; rw [Nat.pow_add 2 f.t (f.w + 5), ← Nat.div_div_eq_div_mul, h2, h4]; cases s <;> rfl
theorem vG_lt (f : DF) (B : Nat) : vG f B < 2 ^ (f.w + 5) := Nat.mod_lt _ (Nat.two_pow_pos _)
theorem vR_lt (f : DF) (B : Nat) : vR f B < 2 ^ f.t := Nat.mod_lt _ (Nat.two_pow_pos _)
theorem vT_lt {f : DF} (h : f.ok) (hd : f.dn = true) (R : Nat) : vT f R < 10 ^ (3 * f.j) := by
  unfold vT
  rw [hd, if_pos rfl, ten3]
  exact dlU_lt _ _
/-- what a pattern means is the format's -/
theorem vD_is {f : DF} (h : f.ok) (s : Bool) {G R : Nat} (hG : G < 2 ^ (f.w + 5)) (hR : R < 2 ^ f.t) : vI f (vD f s G R) := by
  have hp : 0 < (10 : Nat) ^ (3 * f.j) := Nat.pow_pos (by decide)
  have hp' : 0 < (10 : Nat) ^ (3 * f.j + 1) := Nat.pow_pos (by decide)
  unfold vD
  by_cases h30 : vV f.w G = 30
  · rw [if_pos h30]; exact Or.inr (Or.inl ⟨rfl, rfl, rfl, rfl⟩)
  · rw [if_neg h30]
    by_cases h31 : vV f.w G = 31
    · rw [if_pos h31]
      refine Or.inr (Or.inr ⟨rfl, rfl, ?_⟩)
      show (if vT f R < 10 ^ (3 * f.j) then vT f R else 0) < 10 ^ (3 * f.j)
      split <;> omega
    · rw [if_neg h31]
      refine Or.inl ⟨rfl, rfl, ?_, ?_, ?_⟩
      · show (if vL f.dn f.w G * vQ f + vT f R < 10 ^ (3 * f.j + 1) then vL f.dn f.w G * vQ f + vT f R else 0) < 10 ^ (3 * f.j + 1)
        split <;> omega
      · show f.l ≤ (vF f.dn f.w G : Int) + f.l
        omega
      · show (vF f.dn f.w G : Int) + f.l ≤ f.l + 3 * 2 ^ f.w - 1
        have : vF f.dn f.w G < 3 * 2 ^ f.w := by
          unfold vF
          unfold vV at *
          rcases h with ⟨h1, h2, h3, h4⟩ | ⟨h1, h2, h3, h4⟩ | ⟨h1, h2, h3, h4⟩ <;> rw [h2] at hG h30 h31 ⊢ <;> cases f.dn <;> simp only [Bool.false_eq_true, if_false, if_true] <;> simp only [Nat.reducePow, Nat.reduceAdd] at * <;> split <;> omega
        have e : ((3 * 2 ^ f.w : Nat) : Int) = 3 * 2 ^ f.w := by simp
        omega
theorem vM_is {f : DF} (h : f.ok) (B : Nat) : vI f (vM f B) := vD_is h _ (vG_lt f B) (vR_lt f B)
theorem vPG_lt {f : DF} (h : f.ok) {d : Dat} (hd : vI f d) : vPG f d < 2 ^ (f.w + 5) := by
  have hq : d.c = 1 → d.k / vQ f ≤ 9 := fun h1 => by
    rcases hd with ⟨_, _, hk, _, _⟩ | ⟨h2, _⟩ | ⟨h2, _⟩
    · unfold vQ
      rcases h with ⟨h1, h2, h3, h4⟩ | ⟨h1, h2, h3, h4⟩ | ⟨h1, h2, h3, h4⟩ <;> rw [h3] at hk ⊢ <;> rw [h1] <;> cases f.dn <;> simp only [Bool.false_eq_true, if_false, if_true] <;> simp only [Nat.reducePow, Nat.reduceAdd, Nat.reduceMul] at * <;> omega
    · omega
    · omega
  unfold vPG
  rcases hd with ⟨c1, g1, hk, hx, hx'⟩ | ⟨c1, g1, hk, hx⟩ | ⟨c1, hx, hk⟩
  · have h9 := hq c1
    rw [if_neg (by omega), if_neg (by omega)]
    generalize d.k / vQ f = a at *
    have hE : (d.x - f.l).toNat < 3 * 2 ^ f.w := by
      have e : ((3 * 2 ^ f.w : Nat) : Int) = 3 * 2 ^ f.w := by simp
      omega
    generalize (d.x - f.l).toNat = E at *
    unfold vN
    rcases h with ⟨h1, h2, h3, h4⟩ | ⟨h1, h2, h3, h4⟩ | ⟨h1, h2, h3, h4⟩ <;> rw [h2] at hE ⊢ <;> cases f.dn <;> simp only [Bool.false_eq_true, if_false, if_true] <;> simp only [Nat.reducePow, Nat.reduceAdd, Nat.reduceMul] at * <;> split <;> omega
  · rw [if_pos c1]
    rcases h with ⟨h1, h2, h3, h4⟩ | ⟨h1, h2, h3, h4⟩ | ⟨h1, h2, h3, h4⟩ <;> rw [h2] <;> decide
  · rw [if_neg (by omega), if_pos c1]
    rcases h with ⟨h1, h2, h3, h4⟩ | ⟨h1, h2, h3, h4⟩ | ⟨h1, h2, h3, h4⟩ <;> rw [h2] <;> cases d.g <;> decide
theorem vPR_lt {f : DF} (h : f.ok) {d : Dat} (hd : vI f d) : vPR f d < 2 ^ f.t := by
  unfold vPR
  rcases hd with ⟨c1, g1, hk, hx, hx'⟩ | ⟨c1, g1, hk, hx⟩ | ⟨c1, hx, hk⟩
  · rw [if_neg (by omega), if_neg (by omega)]
    split
    · rw [h.pt]; exact dlP_lt _ _
    · exact Nat.mod_lt _ (Nat.two_pow_pos _)
  · rw [if_pos c1]; exact Nat.two_pow_pos _
  · rw [if_neg (by omega), if_pos c1]
    split
    · rw [h.pt]; exact dlP_lt _ _
    · refine Nat.lt_of_lt_of_le hk ?_
      rcases h with ⟨h1, h2, h3, h4⟩ | ⟨h1, h2, h3, h4⟩ | ⟨h1, h2, h3, h4⟩ <;> rw [h1, h3] <;> decide
theorem vP_lt {f : DF} (h : f.ok) {d : Dat} (hd : vI f d) : vP f d < 2 ^ (f.t + (f.w + 6)) := by
  have h1 := vPG_lt h hd
  have h2 := vPR_lt h hd
  unfold vP
  have e5 : 2 ^ (f.t + (f.w + 5)) = 2 ^ (f.w + 5) * 2 ^ f.t := by rw [← Nat.pow_add, Nat.add_comm]
  have e6 : 2 ^ (f.t + (f.w + 6)) = 2 * (2 ^ (f.w + 5) * 2 ^ f.t) := by rw [← Nat.pow_add, ← Nat.pow_succ']; congr 1; omega
  have h3 : (if d.s then 2 ^ (f.t + (f.w + 5)) else 0) ≤ 2 ^ (f.w + 5) * 2 ^ f.t := by split <;> omega
  have h4 : (vPG f d + 1) * 2 ^ f.t ≤ 2 ^ (f.w + 5) * 2 ^ f.t := Nat.mul_le_mul_right _ h1
  rw [Nat.add_mul, Nat.one_mul] at h4
  rw [e6]
  omega
theorem vP_256 {f : DF} (h : f.ok) {d : Dat} (hd : vI f d) : vP f d < 2 ^ 256 := by
  refine Nat.lt_of_lt_of_le (vP_lt h hd) (Nat.pow_le_pow_right (by decide) ?_)
  rcases h with ⟨h1, h2, h3, h4⟩ | ⟨h1, h2, h3, h4⟩ | ⟨h1, h2, h3, h4⟩ <;> omega
theorem vM_256 {f : DF} (h : f.ok) (B : Nat) : (vM f B).k < 2 ^ 256 := by
  have hi := vM_is h B
  have e : (10 : Nat) ^ (3 * f.j + 1) ≤ 10 ^ 34 := Nat.pow_le_pow_right (by decide) (by rcases h with ⟨h1, h2, h3, h4⟩ | ⟨h1, h2, h3, h4⟩ | ⟨h1, h2, h3, h4⟩ <;> omega)
  have e' : (10 : Nat) ^ (3 * f.j) ≤ 10 ^ 34 := Nat.pow_le_pow_right (by decide) (by rcases h with ⟨h1, h2, h3, h4⟩ | ⟨h1, h2, h3, h4⟩ | ⟨h1, h2, h3, h4⟩ <;> omega)
  have e2 : (10 : Nat) ^ 34 < 2 ^ 256 := by decide
  rcases hi with ⟨_, _, hk, _⟩ | ⟨_, _, hk, _⟩ | ⟨_, _, hk⟩ <;> omega
/-- the first digit and the exponent's field of what was laid -/
theorem vN_back {f : DF} (h : f.ok) {E a : Nat} (hE : E < 3 * 2 ^ f.w) (ha : a ≤ 9) : vF f.dn f.w (vN f.dn f.w E a) = E ∧ vL f.dn f.w (vN f.dn f.w E a) = a ∧ vV f.w (vN f.dn f.w E a) ≠ 30 ∧ vV f.w (vN f.dn f.w E a) ≠ 31 := by
  unfold vF vL vN vV
  rcases h with ⟨h1, h2, h3, h4⟩ | ⟨h1, h2, h3, h4⟩ | ⟨h1, h2, h3, h4⟩ <;> rw [h2] at hE ⊢ <;> cases f.dn <;> simp only [Bool.false_eq_true, if_false, if_true] <;> simp only [Nat.reducePow, Nat.reduceAdd, Nat.reduceMul] at * <;> by_cases h8 : 8 ≤ a
  all_goals simp only [h8, if_true, if_false]
  all_goals refine ⟨?_, ?_, ?_, ?_⟩
  all_goals (try split) <;> omega
/-- what was packed means what it was -/
theorem vM_vP {f : DF} (h : f.ok) {d : Dat} (hd : vI f d) : vM f (vP f d) = d := by
  obtain ⟨e1, e2, e3⟩ := v_parts f d.s (vPG_lt h hd) (vPR_lt h hd)
  unfold vM
  unfold vP
  rw [e1, e2, e3]
  obtain ⟨c, s, g, x, k⟩ := d
  unfold vD vPG vPR
  rcases hd with ⟨c1, g1, hk, hx, hx'⟩ | ⟨c1, g1, hk, hx⟩ | ⟨c1, hx, hk⟩
  · simp only at c1 g1 hk hx hx'
    subst c1 g1
    simp only [show ¬ (1 : Int) = 2 by decide, show ¬ (1 : Int) = 3 by decide, if_false]
    have hE : (x - f.l).toNat < 3 * 2 ^ f.w := by
      have e : ((3 * 2 ^ f.w : Nat) : Int) = 3 * 2 ^ f.w := by simp
      omega
    have ha : k / vQ f ≤ 9 := by
      unfold vQ
      rcases h with ⟨h1, h2, h3, h4⟩ | ⟨h1, h2, h3, h4⟩ | ⟨h1, h2, h3, h4⟩ <;> rw [h3] at hk ⊢ <;> rw [h1] <;> cases f.dn <;> simp only [Bool.false_eq_true, if_false, if_true] <;> simp only [Nat.reducePow, Nat.reduceAdd, Nat.reduceMul] at * <;> omega
    obtain ⟨b1, b2, b3, b4⟩ := vN_back h hE ha
    rw [if_neg b3, if_neg b4, b1, b2]
    have ht : k / vQ f * vQ f + vT f (if f.dn then dlP f.j (k % 10 ^ (3 * f.j)) else k % 2 ^ f.t) = k := by
      unfold vT vQ
      cases f.dn
      · simp only [Bool.false_eq_true, if_false]
        rw [Nat.mul_comm]; exact Nat.div_add_mod k _
      · simp only [if_true]
        rw [dl_there _ _ (by rw [← ten3]; exact Nat.mod_lt _ (Nat.pow_pos (by decide))), Nat.mul_comm]
        exact Nat.div_add_mod k _
    rw [ht, if_pos hk]
    congr 1
    omega
  · simp only at c1 g1 hk hx
    subst c1 g1 hk hx
    simp only [if_true]
    have : vV f.w (30 * 2 ^ f.w) = 30 := by unfold vV; exact Nat.mul_div_cancel _ (Nat.two_pow_pos _)
    rw [if_pos this]
  · simp only at c1 hx hk
    subst c1 hx
    simp only [show ¬ (3 : Int) = 2 by decide, if_false, if_true]
    have hw : 2 ^ f.w = 2 * 2 ^ (f.w - 1) := by rw [← Nat.pow_succ']; congr 1; rcases h with ⟨h1, h2, h3, h4⟩ | ⟨h1, h2, h3, h4⟩ | ⟨h1, h2, h3, h4⟩ <;> omega
    have hp := Nat.two_pow_pos (f.w - 1)
    have h31 : vV f.w (31 * 2 ^ f.w + if g then 2 ^ (f.w - 1) else 0) = 31 := by
      unfold vV
      rw [Nat.mul_comm, Nat.mul_add_div (Nat.two_pow_pos _), Nat.div_eq_of_lt (by split <;> omega)]
    have hg : decide ((31 * 2 ^ f.w + if g then 2 ^ (f.w - 1) else 0) / 2 ^ (f.w - 1) % 2 = 1) = g := by
      rw [hw, show 31 * (2 * 2 ^ (f.w - 1)) = 2 ^ (f.w - 1) * 62 by omega, Nat.mul_add_div hp]
      cases g
      · simp
      · simp only [if_true]; rw [Nat.div_self hp]; decide
    rw [if_neg (by rw [h31]; decide), if_pos h31, hg]
    have ht : vT f (if f.dn then dlP f.j k else k) = k := by
      unfold vT
      cases f.dn
      · simp
      · simp only [if_true]
        exact dl_there _ _ (by rw [← ten3]; exact hk)
    rw [ht, if_pos hk]
theorem bnx {w0 W W' : World} (h : Below w0.heap.size w0 W) (hb : Below W.heap.size W W') : Below w0.heap.size w0 W' := h.trans (hb.mono h.size)
/-- how many bits a number has -/
def bl (V : Nat) : Nat := if V = 0 then 0 else Nat.log2 V + 1
theorem bl_le {V k : Nat} : bl V ≤ k ↔ V < 2 ^ k := by
  unfold bl
  by_cases h : V = 0
  · subst h; simp; exact Nat.two_pow_pos k
  · rw [if_neg h]
    have := Nat.log2_lt h (k := k)
    omega
theorem bl_ge {V k : Nat} : k < bl V ↔ 2 ^ k ≤ V := by
  have := bl_le (V := V) (k := k)
  omega
theorem bl_zero {V : Nat} : bl V = 0 ↔ V = 0 := by
  unfold bl; by_cases h : V = 0 <;> simp [h]
theorem bl_eq {V L : Nat} (h1 : 2 ^ (L - 1) ≤ V) (h2 : V < 2 ^ L) : bl V = L := by
  have a := bl_le.2 h2
  by_cases h : L = 0
  · omega
  · have b := bl_ge.2 h1
    omega
/-- a number in a list of words, at most K of them -/
def Nt (K V : Nat) (v : Value) (w : World) : Prop := ∃ a k cap z, v = .slice a k cap ∧ k ≤ K ∧ Num w a k cap z ∧ val z k = (V : Int)
theorem Nt.next {K V : Nat} {v : Value} {w w' : World} (h : Nt K V v w) (hb : Below w.heap.size w w') : Nt K V v w' := by
  obtain ⟨a, k, cap, z, h1, h2, h3, h4⟩ := h
  exact ⟨a, k, cap, z, h1, h2, h3.next hb, h4⟩
theorem Nt.more {K K' V : Nat} {v : Value} {w : World} (h : Nt K V v w) (hk : K ≤ K') : Nt K' V v w := by
  obtain ⟨a, k, cap, z, h1, h2, h3, h4⟩ := h
  exact ⟨a, k, cap, z, h1, by omega, h3, h4⟩
/-- without noughts at its end -/
def Nz (K V : Nat) (v : Value) (w : World) : Prop := ∃ a k cap z, v = .slice a k cap ∧ k ≤ K ∧ Num w a k cap z ∧ val z k = (V : Int) ∧ sizeL z k = k
theorem Nz.next {K V : Nat} {v : Value} {w w' : World} (h : Nz K V v w) (hb : Below w.heap.size w w') : Nz K V v w' := by
  obtain ⟨a, k, cap, z, h1, h2, h3, h4, h5⟩ := h
  exact ⟨a, k, cap, z, h1, h2, h3.next hb, h4, h5⟩
theorem size_zero {z : Nat → Int} {k V : Nat} (hz : Words z) (hv : val z k = (V : Int)) : sizeL z k = 0 ↔ V = 0 := by
  constructor
  · intro h
    have := val_bare (x := z) k
    rw [h] at this
    have h0 : val z 0 = 0 := rfl
    omega
  · intro h
    subst h
    rcases Nat.eq_zero_or_pos (sizeL z k) with h | h
    · exact h
    · exfalso
      have := val_longer (x := z) (y := z) hz hz (n := 0) (m := sizeL z k) h (sizeL_sizeL z k)
      rw [val_bare] at this
      have h0 : val z 0 = 0 := rfl
      omega
theorem len_bl {z : Nat → Int} {k V : Nat} (hz : Words z) (hv : val z k = (V : Int)) : lenL z k = (bl V : Int) := by
  rcases Nat.eq_zero_or_pos (sizeL z k) with h | h
  · have h0 := (size_zero hz hv).1 h
    unfold lenL; rw [if_pos h, h0]; rfl
  · obtain ⟨L, h1, h2, h3⟩ := len_bd hz h
    rw [hv] at h2 h3
    have e : bl V = L + 1 := by
      have e1 : ((2 : Int) ^ L) = ((2 ^ L : Nat) : Int) := by simp
      have e2 : ((2 : Int) ^ (L + 1)) = ((2 ^ (L + 1) : Nat) : Int) := by simp
      rw [e1] at h2
      rw [e2] at h3
      exact bl_eq (by rw [Nat.add_sub_cancel]; omega) (by omega)
    rw [e, h1]; omega
def knB (d : Int) : Prop := 0 ≤ d ∧ d ≤ 4
instance (d : Int) : Decidable (knB d) := inferInstanceAs (Decidable (_ ∧ _))
/-- does what overflows become infinite -/
def inB (d : Int) (s : Bool) : Bool := if d = 0 ∨ d = 1 then true else if d = 3 then !s else if d = 4 then s else false
/-- is the neighbour farther from nought taken -/
def faB (d : Int) (s odd : Bool) (R D : Nat) : Bool := if R = 0 then false else if d = 0 then decide (D < R + R) || (decide (R + R = D) && odd) else if d = 1 then decide (D ≤ R + R) else inB d s
theorem sgn_ways (a b : Int) : (a < b ∧ sgn a b = -1) ∨ (a = b ∧ sgn a b = 0) ∨ (b < a ∧ sgn a b = 1) := by
  unfold sgn
  by_cases h : a < b
  · exact Or.inl ⟨h, if_pos h⟩
  · by_cases h' : b < a
    · exact Or.inr (Or.inr ⟨h', by rw [if_neg h, if_pos h']⟩)
    · exact Or.inr (Or.inl ⟨by omega, by rw [if_neg h, if_neg h']⟩)
/-- the place of the highest bit of a fraction -/
def ld (N D : Nat) : Int := let p := (bl N : Int) - bl D; if N * 2 ^ (-p).toNat < D * 2 ^ p.toNat then p - 1 else p
/-- a binary format -/
def binN (n : Int) : Prop := 1 ≤ n ∧ n ≤ 6
instance (n : Int) : Decidable (binN n) := inferInstanceAs (Decidable (_ ∧ _))
def fN (n : Int) : Nat := (precN n - 1).toNat
def eN (n : Int) : Nat := (expN n).toNat
/-- a binary format's pattern -/
def goodN (n : Int) (B : Nat) : Prop := binN n ∧ B < 2 ^ (fN n + eN n + 1)
instance (n : Int) (B : Nat) : Decidable (goodN n B) := inferInstanceAs (Decidable (_ ∧ _))
theorem A4_get (B : Nat) : ∀ i, i < 4 → (#[Value.int .u64 (W4 B 0), .int .u64 (W4 B 1), .int .u64 (W4 B 2), .int .u64 (W4 B 3)] : Array Value)[i]? = some (.int .u64 (W4 B i)) := fun i hi => by
  have : i = 0 ∨ i = 1 ∨ i = 2 ∨ i = 3 := by omega
  rcases this with rfl | rfl | rfl | rfl <;> rfl
theorem fits4 (n : Int) (B : Nat) (hB : B < 2 ^ 256) (w : World) (hT : Tab w) :
    Calls Tryd.prog 37 #[.int .i64 n, A4 B] w fun x w' => x = .returned (.bool (decide (okN n ∧ B < 2 ^ (widthN n).toNat))) ∧ Below w.heap.size w w' := by
  refine (fits_any n (W4 B) (W4_words B) _ (A4_get B) rfl w hT).mono ?_
  rintro x w' ⟨rfl, hb⟩
  refine ⟨?_, hb⟩
  have hwd := (fields_bounds n).2.1
  have e : (fitsP n (W4 B)) ↔ (okN n ∧ B < 2 ^ (widthN n).toNat) := by
    unfold fitsP
    rw [lenL_low]
    have := len4_le (k := (widthN n).toNat) hB
    rw [show (((widthN n).toNat : Nat) : Int) = widthN n by omega] at this
    rw [this]
  rw [decide_eq_decide.2 e]
abbrev Z4 : Value := .agg #[.int .u64 0, .int .u64 0, .int .u64 0, .int .u64 0]
theorem Z4_eq : A4 0 = Z4 := by unfold A4 Z4; simp only [W4_zero]

/-- is a datum the format's? -/
def isD (f : Nat) (l m : Int) (d : Dat) : Prop :=
  (d.c = 1 ∧ d.g = false ∧ d.k < 2 ^ (f + 1) ∧ l ≤ d.x ∧ d.x ≤ m ∧ (2 ^ f ≤ d.k ∨ d.x = l)) ∨
  (d.c = 2 ∧ d.g = false ∧ d.x = 0 ∧ d.k = 0) ∨
  (d.c = 3 ∧ d.x = 0 ∧ d.k < 2 ^ (f - 1) ∧ (d.k ≠ 0 ∨ d.g = false))
instance (f : Nat) (l m : Int) (d : Dat) : Decidable (isD f l m d) := inferInstanceAs (Decidable (_ ∨ _ ∨ _))
theorem eq24d (d : Nat) (a0 a1 a2 a3 b0 b1 b2 b3 : Int) (w : World) :
    Sem.run Tryd.prog (Op.equalIn (d + 2) 24 (.agg #[.int .u64 a0, .int .u64 a1, .int .u64 a2, .int .u64 a3]) (.agg #[.int .u64 b0, .int .u64 b1, .int .u64 b2, .int .u64 b3])) w = .ok (decide (a0 = b0 ∧ a1 = b1 ∧ a2 = b2 ∧ a3 = b3)) w := by
  obtain ⟨i22, hi⟩ : ∃ i, Tryd.prog.info? 22 = some i := ⟨_, rfl⟩
  have h := run_equalIn_array (P := Tryd.prog) w (d + 1) (t := 24) (e := 22) (n := 4) #[.int .u64 a0, .int .u64 a1, .int .u64 a2, .int .u64 a3] #[.int .u64 b0, .int .u64 b1, .int .u64 b2, .int .u64 b3] (by kernel_rfl) hi
  refine h.trans ?_
  have hc : Tryd.prog.cellsOf 22 = 1 := by kernel_rfl
  rw [hc]
  simp [List.range_succ, Op.eqItems, go_sem]
  by_cases h0 : a0 = b0 <;> by_cases h1 : a1 = b1 <;> by_cases h2 : a2 = b2 <;> by_cases h3 : a3 = b3 <;> simp [h0, h1, h2, h3]
theorem eq24 (a0 a1 a2 a3 b0 b1 b2 b3 : Int) (w : World) :
    Sem.run Tryd.prog (Op.equalIn 10000 24 (.agg #[.int .u64 a0, .int .u64 a1, .int .u64 a2, .int .u64 a3]) (.agg #[.int .u64 b0, .int .u64 b1, .int .u64 b2, .int .u64 b3])) w = .ok (decide (a0 = b0 ∧ a1 = b1 ∧ a2 = b2 ∧ a3 = b3)) w :=
  eq24d 9998 a0 a1 a2 a3 b0 b1 b2 b3 w
end Go.Proofs.YtehgnckgmdkfmaaDoor

namespace Go.Proofs.YtehgnckgmdkfmaaDoor

/-- what a pattern means, by its fields -/
def mean (f e : Nat) (l : Int) (S E F : Nat) : Dat :=
  if E = 2 ^ e - 1 then spc f (decide (S = 1)) F else if E = 0 then ⟨1, decide (S = 1), false, l, F⟩ else ⟨1, decide (S = 1), false, l + ((E : Int) - 1), F + 2 ^ f⟩
end Go.Proofs.YtehgnckgmdkfmaaDoor

namespace Go.Proofs.YtehgnckgmdkfmaaDoor
open Go.RowKit
section
/-- a block holds a format -/
structure Ib (w : World) (g : Nat) (n : Int) (nm : ByteArray) (wd : Int) (f e : Nat) (l m : Int) : Prop where
  c0 : w.cell? ⟨g, 0, none⟩ = some (.int .i64 n)
  c1 : w.cell? ⟨g, 1, none⟩ = some (.string nm)
  c2 : w.cell? ⟨g, 2, none⟩ = some (.int .i64 2)
  c3 : w.cell? ⟨g, 3, none⟩ = some (.int .i64 wd)
  c4 : w.cell? ⟨g, 4, none⟩ = some (.int .i64 ((f : Int) + 1))
  c5 : w.cell? ⟨g, 5, none⟩ = some (.int .i64 e)
  c6 : w.cell? ⟨g, 6, none⟩ = some (.int .i64 l)
  c7 : w.cell? ⟨g, 7, none⟩ = some (.int .i64 m)
  c8 : w.cell? ⟨g, 8, none⟩ = some (.int .i64 ((f : Int) - 1))
  c9 : w.cell? ⟨g, 9, none⟩ = some (.bool false)
theorem Ib.next {w w' : World} {g : Nat} {n : Int} {nm : ByteArray} {wd : Int} {f e : Nat} {l m : Int} (h : Ib w g n nm wd f e l m) (hg : g < w.heap.size) (hb : Below w.heap.size w w') : Ib w' g n nm wd f e l m :=
  ⟨by rw [hb.cell (p := ⟨g, 0, none⟩) hg, h.c0], by rw [hb.cell (p := ⟨g, 1, none⟩) hg, h.c1], by rw [hb.cell (p := ⟨g, 2, none⟩) hg, h.c2], by rw [hb.cell (p := ⟨g, 3, none⟩) hg, h.c3], by rw [hb.cell (p := ⟨g, 4, none⟩) hg, h.c4], by rw [hb.cell (p := ⟨g, 5, none⟩) hg, h.c5], by rw [hb.cell (p := ⟨g, 6, none⟩) hg, h.c6], by rw [hb.cell (p := ⟨g, 7, none⟩) hg, h.c7], by rw [hb.cell (p := ⟨g, 8, none⟩) hg, h.c8], by rw [hb.cell (p := ⟨g, 9, none⟩) hg, h.c9]⟩
attribute [local irreducible] W4 Nz Nt
end
end Go.Proofs.YtehgnckgmdkfmaaDoor

namespace Go.Proofs.YtehgnckgmdkfmaaDoor

theorem bl_bd {V : Nat} (h : V ≠ 0) : 2 ^ (bl V - 1) ≤ V ∧ V < 2 ^ bl V ∧ 1 ≤ bl V := by
  have h0 : bl V ≠ 0 := fun e => h (bl_zero.1 e)
  exact ⟨bl_ge.1 (by omega), bl_le.1 (Nat.le_refl _), by omega⟩
end Go.Proofs.YtehgnckgmdkfmaaDoor

namespace Go.Proofs.YtehgnckgmdkfmaaDoor
open Go.RowKit
theorem rless_tr (a a' : Option Addr) (n c n' c' : Nat) (x y : Nat → Int) (w : World) (hn : n < 4294967290) (hn' : n' < 4294967290) (h : Num w a n c x) (h' : Num w a' n' c' y) :
    Calls Tryd.prog 63 #[.slice a n c, .slice a' n' c'] w fun e w' => ∃ g k cap, e = .returned (.slice (some ⟨g, 0, none⟩) k cap) ∧ k ≤ max n n' ∧ Num w' (some ⟨g, 0, none⟩) k cap (difZ x y (max n n')) ∧ sizeL (difZ x y (max n n')) k = k ∧ Below w.heap.size w w' := by
  have hx := h.2.2.1
  have hy := h'.2.2.1
  have zx := h.2.2.2.1
  have zy := h'.2.2.2.1
  obtain ⟨M, hM⟩ : ∃ M, max n n' = M := ⟨_, rfl⟩
  have hMi : max (n : Int) n' = (M : Int) := by omega
  have hMb : M < 4294967292 := by omega
  have hmk := fun w => make_any (max (n : Int) n') M hMi (by omega) w
  have hfin : ∀ (ss : Array Value), ss.size = M → (∀ j h, ss[j]'h = Value.int .u64 (difW x y j)) → Num (w.alloc (.cells ss 22)) (some ⟨w.heap.size, 0, none⟩) M M (difZ x y (max n n')) := fun ss h1 h2 => num_of_block (by omega) (difZ_words x y _) (fun i hi => by unfold difZ; rw [if_neg (by omega)]) h1 (fun j hj => by rw [h2 j hj]; unfold difZ; rw [if_pos (by omega)])
  have hw1 := fun (i : Nat) (ss : Array Value) => word_any a n c i x (w.alloc (.cells ss 22)) (h.next (below1 w _))
  have hw2 := fun (i : Nat) (ss : Array Value) => word_any a' n' c' i y (w.alloc (.cells ss 22)) (h'.next (below1 w _))
  have HM : Hid (max n n' = M) := hM
  have HZ : Hid ((arrOf (fun _ => 0) M).size = M ∧ ∀ j h, (arrOf (fun _ => 0) M)[j]'h = Value.int .u64 0) := ⟨arrOf_size _ _, fun j h => arrOf_get _ _ _ _⟩
  clear h h' zx zy hM hMi
  generalize arrOf (fun _ => 0) M = zz at *
  go_enter Tryd.func63, Tryd.ntmps63
  go_wp2
  go_loopw [6, 7, 16, 19] (fun c u7 i u20 wr => ∃ (k : Nat) (ss : Array Value), k ≤ M ∧ i = .int .i64 k ∧ c = .int .u64 (borW x y k) ∧ ss.size = M ∧ (∀ j h, ss[j]'h = Value.int .u64 (if j < k then difW x y j else 0)) ∧ wr = w.alloc (.cells ss 22)) (fun _ _ i _ _ => M - (intOf i).toNat)
  case atStart => exact ⟨0, zz, Nat.zero_le _, rfl, rfl, HZ.out.1, fun j h => by rw [HZ.out.2 j h]; simp, rfl⟩
  case round =>
    obtain ⟨k, ss, hk, rfl, rfl, hsz, hss, rfl⟩ := hrel
    have hcar := borW_01 x y k
    by_cases h8 : k < M
    · have h8i : (k : Int) < M := by omega
      have h8s : k < ss.size := by omega
      have bx := hx k
      have b_y := hy k
      have hsk : ss[k]? = some (.int .u64 0) := by rw [Array.getElem?_eq_getElem h8s, hss k h8s, if_neg (by omega)]
      have hadd := fun w => sub64 (x k) (y k) (borW x y k) bx.1 b_y.1 (by omega) hcar.1 hcar.2 w
      have hwa := hw1 k ss
      have hwb := hw2 k ss
      have HR : Hid (∀ (i : Nat) (h : i < (ss.setIfInBounds k (.int .u64 (difW x y k))).size), (ss.setIfInBounds k (.int .u64 (difW x y k)))[i]'h = Value.int .u64 (if i < k + 1 then difW x y i else 0)) := set_next hss
      clear hss hw1 hw2 hfin hmk hx hy
      go_wp2_with (first | (go_at_call_of 64 (Value.slice a n c); refine hwa.mono ?_; rintro e w' ⟨rfl, rfl⟩) | (go_at_call_of 64 (Value.slice a' n' c'); refine hwb.mono ?_; rintro e w' ⟨rfl, rfl⟩))
      go_roundw
      case rel => exact ⟨k + 1, ss.setIfInBounds k (.int .u64 (difW x y k)), by omega, by go_num, rfl, by simp [hsz], HR.out, rfl⟩
      case measure => simp [intOf]; omega
    · obtain rfl : k = M := by omega
      have hss' : ∀ j h, ss[j]'h = Value.int .u64 (difW x y j) := by
        intro j h; rw [hss j h, if_pos (by omega)]
      have hT := trim_any _ _ _ _ _ (by omega) (hfin ss hsz hss')
      have hle := sizeL_le (difZ x y (max n n')) k
      clear hss hss' hw1 hw2 hfin hmk hx hy
      go_wp2_with (go_at_call 59; refine hT.mono ?_; rintro e w1 ⟨g, cap, rfl, hN, hB⟩)
      go_ret
      exact ⟨g, _, cap, rfl, Nat.le_trans hle (Nat.le_of_eq HM.out.symm), hN, sizeL_sizeL _ _, (below1 w _).trans (hB.mono (by simp))⟩

/-- a natural number, of at most K words -/
def NV (K V : Nat) (v : Value) (w : World) : Prop := ∃ g k cap z, v = .slice (some ⟨g, 0, none⟩) k cap ∧ k ≤ K ∧ Num w (some ⟨g, 0, none⟩) k cap z ∧ val z k = (V : Int)
theorem NV.next {K V : Nat} {v : Value} {w w' : World} (h : NV K V v w) (hb : Below w.heap.size w w') : NV K V v w' := by
  obtain ⟨g, k, cap, z, h1, h2, h3, h4⟩ := h
  exact ⟨g, k, cap, z, h1, h2, h3.next hb, h4⟩
theorem NV.more {K K' V : Nat} {v : Value} {w : World} (h : NV K V v w) (hk : K ≤ K') : NV K' V v w := by
  obtain ⟨g, k, cap, z, h1, h2, h3, h4⟩ := h
  exact ⟨g, k, cap, z, h1, by omega, h3, h4⟩
theorem rright_nv {K A : Nat} {v : Value} {w : World} (s : Nat) (hK : K < 1000) (hs : s ≤ 600) (h : NV K A v w) :
    Calls Tryd.prog 34 #[v, .int .i64 s] w fun e w' => ∃ v' b, e = .returned (.tuple #[v', .bool b]) ∧ NV K (A / 2 ^ s) v' w' ∧ Below w.heap.size w w' := by
  obtain ⟨g, k, cap, z, rfl, hk, hN, hv⟩ := h
  obtain ⟨q, hq⟩ : ∃ q : Nat, (s : Int) / 64 = q := ⟨((s : Int) / 64).toNat, by omega⟩
  obtain ⟨r, hr⟩ : ∃ r : Nat, (s : Int) % 64 = r := ⟨((s : Int) % 64).toNat, by omega⟩
  have hsn : s = 64 * q + r := by omega
  have hr6 : r < 64 := by omega
  have key : ∀ (w' : World) (g' k' cap' : Nat), k' ≤ k → Num w' (some ⟨g', 0, none⟩) k' cap' (shrW z q r) → NV K (A / 2 ^ s) (.slice (some ⟨g', 0, none⟩) k' cap') w' := fun w' g' k' cap' hk' hN' => by
    refine ⟨g', k', cap', _, rfl, by omega, hN', ?_⟩
    rw [← val_more hN'.2.2.2.1 k hk', hsn]
    exact shrW_val hN.2.2.1 hN.2.2.2.1 hr6 k (Nat.le_refl _) hv
  by_cases h0 : r = 0
  · subst h0
    refine (right_z g 0 k cap q s z w (by omega) (by omega) hq (by omega) (by omega) hN).mono ?_
    rintro e w' ⟨g', k', cap', b, rfl, hk', hN', hb⟩
    exact ⟨_, b, rfl, key w' g' k' cap' hk' hN', hb⟩
  · refine (right_p g 0 k cap q r s z w (by omega) (by omega) hr6 (by omega) hq hr (by omega) hN).mono ?_
    rintro e w' ⟨g', k', cap', b, rfl, hk', hN', hb⟩
    exact ⟨_, b, rfl, key w' g' k' cap' hk' hN', hb⟩
theorem rleft_nv {K A : Nat} {v : Value} {w : World} (s : Nat) (hK : K < 1000) (hs : s ≤ 600) (h : NV K A v w) :
    Calls Tryd.prog 57 #[v, .int .i64 s] w fun e w' => ∃ v', e = .returned v' ∧ NV (K + 11) (A * 2 ^ s) v' w' ∧ Below w.heap.size w w' := by
  obtain ⟨g, k, cap, z, rfl, hk, hN, hv⟩ := h
  obtain ⟨q, hq⟩ : ∃ q : Nat, (s : Int) / 64 = q := ⟨((s : Int) / 64).toNat, by omega⟩
  obtain ⟨r, hr⟩ : ∃ r : Nat, (s : Int) % 64 = r := ⟨((s : Int) % 64).toNat, by omega⟩
  have hsn : s = 64 * q + r := by omega
  have hr6 : r < 64 := by omega
  have key : ∀ (w' : World) (g' k' cap' : Nat), k' ≤ k + q + 1 → Num w' (some ⟨g', 0, none⟩) k' cap' (finL z q r) → NV (K + 11) (A * 2 ^ s) (.slice (some ⟨g', 0, none⟩) k' cap') w' := fun w' g' k' cap' hk' hN' => by
    refine ⟨g', k', cap', _, rfl, by omega, hN', ?_⟩
    rw [← val_more hN'.2.2.2.1 (k + q + 1) hk', finL_val hN.2.2.1 hN.2.2.2.1 q hr6, hv, hsn]
    simp
  by_cases h0 : r = 0
  · subst h0
    refine (left_z g 0 k cap q s z w (by omega) (by omega) hq (by omega) (by omega) hN).mono ?_
    rintro e w' ⟨g', k', cap', rfl, hk', hN', hb⟩
    exact ⟨_, rfl, key w' g' k' cap' hk' hN', hb⟩
  · refine (left_p g 0 k cap q r s z w (by omega) (by omega) hr6 (by omega) hq hr (by omega) hN).mono ?_
    rintro e w' ⟨g', k', cap', rfl, hk', hN', hb⟩
    exact ⟨_, rfl, key w' g' k' cap' hk' hN', hb⟩
/-- a natural number without noughts at its end -/
def NT (K V : Nat) (v : Value) (w : World) : Prop := ∃ g k cap z, v = .slice (some ⟨g, 0, none⟩) k cap ∧ k ≤ K ∧ Num w (some ⟨g, 0, none⟩) k cap z ∧ val z k = (V : Int) ∧ sizeL z k = k
theorem NT.nv {K V : Nat} {v : Value} {w : World} (h : NT K V v w) : NV K V v w := by
  obtain ⟨g, k, cap, z, h1, h2, h3, h4, _⟩ := h
  exact ⟨g, k, cap, z, h1, h2, h3, h4⟩
theorem NT.next {K V : Nat} {v : Value} {w w' : World} (h : NT K V v w) (hb : Below w.heap.size w w') : NT K V v w' := by
  obtain ⟨g, k, cap, z, h1, h2, h3, h4, h5⟩ := h
  exact ⟨g, k, cap, z, h1, h2, h3.next hb, h4, h5⟩
theorem rless_nt {K K' A B : Nat} {v v' : Value} {w : World} (hK : K < 1000) (hK' : K' < 1000) (h : NV K A v w) (h' : NV K' B v' w) (hv : B ≤ A) :
    Calls Tryd.prog 63 #[v, v'] w fun e w' => ∃ r, e = .returned r ∧ NT (K + K') (A - B) r w' ∧ Below w.heap.size w w' := by
  obtain ⟨g, k, c, z, rfl, hk, hN, hz⟩ := h
  obtain ⟨g2, k2, c2, z2, rfl, hk2, hN2, hz2⟩ := h'
  refine (rless_tr _ _ k c k2 c2 z z2 w (by omega) (by omega) hN hN2).mono fun e w' ⟨g3, k3, cap3, e1, hk3, hN3, ht, hB⟩ => ⟨_, e1, ⟨g3, k3, cap3, _, rfl, by omega, hN3, ?_, ht⟩, hB⟩
  have ex := val_more hN.2.2.2.1 (max k k2) (by omega)
  have ey := val_more hN2.2.2.2.1 (max k k2) (by omega)
  have e := dif_val hN.2.2.1 hN2.2.2.1 (max k k2)
  rw [borW_end hN.2.2.1 hN2.2.2.1 (by omega), ex, ey] at e
  rw [← val_more hN3.2.2.2.1 _ hk3, val_congr (y := difW z z2) (max k k2) fun i hi => by unfold difZ; rw [if_pos hi]]
  omega
theorem radd_nv {K K' A B : Nat} {v v' : Value} {w : World} (hK : K < 1000000) (hK' : K' < 1000000) (h : NV K A v w) (h' : NV K' B v' w) :
    Calls Tryd.prog 55 #[v, v'] w fun e w' => ∃ r, e = .returned r ∧ NV (K + K' + 1) (A + B) r w' ∧ Below w.heap.size w w' := by
  obtain ⟨g, k, c, z, rfl, hk, hN, hz⟩ := h
  obtain ⟨g2, k2, c2, z2, rfl, hk2, hN2, hz2⟩ := h'
  refine (radd_val _ _ k c k2 c2 z z2 w (by omega) (by omega) hN hN2).mono fun e w' ⟨g3, k3, cap3, z3, e1, hk3, hN3, hv3, hB⟩ => ⟨_, e1, ⟨g3, k3, cap3, z3, rfl, by omega, hN3, ?_⟩, hB⟩
  rw [hv3, hz, hz2]; omega
theorem NT.zero {K V : Nat} {v : Value} {w : World} (h : NT K V v w) : ∃ g k cap, v = .slice (some ⟨g, 0, none⟩) k cap ∧ k ≤ K ∧ (k = 0 ↔ V = 0) := by
  obtain ⟨g, k, cap, z, h1, h2, h3, h4, h5⟩ := h
  refine ⟨g, k, cap, h1, h2, ?_⟩
  constructor
  · intro hk; subst hk
    have : val z 0 = 0 := rfl
    omega
  · intro hV
    rcases Nat.eq_zero_or_pos k with hk | hk
    · exact hk
    · exfalso
      have ht := sizeL_top (x := z) k (by omega)
      rw [h5] at ht
      obtain ⟨j, rfl⟩ : ∃ j, k = j + 1 := ⟨k - 1, by omega⟩
      have hs : val z (j + 1) = val z j + z j * 18446744073709551616 ^ j := rfl
      have hb := val_bd h3.2.2.1 j
      have hp := pw_pos j
      have hj := h3.2.2.1 j
      have hz : z j ≠ 0 := ht
      have : 1 * 18446744073709551616 ^ j ≤ z j * 18446744073709551616 ^ j := Int.mul_le_mul_of_nonneg_right (by omega) (Int.le_of_lt hp)
      omega
section
attribute [local go_sem ↓] Go.wp_at_zero Go.wp_at_succ

theorem nv_low {k V : Nat} {z : Nat → Int} (hz : Words z) (h0 : ∀ i, k ≤ i → z i = 0) (hv : val z k = (V : Int)) : val z 4 = ((V % 2 ^ 256 : Nat) : Int) := by
  have h1 : val z (4 + k) = (V : Int) := by rw [val_more h0 (4 + k) (by omega), hv]
  rw [val_split z 4 k] at h1
  have hb := val_bd hz 4
  have e4 : (18446744073709551616 : Int) ^ 4 = ((2 ^ 256 : Nat) : Int) := by decide
  rw [e4] at h1 hb
  have h5 := congrArg (· % ((2 ^ 256 : Nat) : Int)) h1
  simp only [Int.add_mul_emod_self_right, Int.emod_eq_of_lt hb.1 hb.2] at h5
  rw [h5]
  rfl
set_option maxHeartbeats 1000000 in
theorem bits_num (g k cap : Nat) (z : Nat → Int) (w : World) (h : Num w (some ⟨g, 0, none⟩) k cap z) :
    Calls Tryd.prog 32 #[.slice (some ⟨g, 0, none⟩) k cap] w fun e w' => e = .returned (.agg (arrOf z 4)) ∧ Below w.heap.size w w' := by
  have hw := fun (i : Nat) (o1 o2 : Obj) => word_any (some ⟨g, 0, none⟩) k cap i z ((w.alloc o1).alloc o2) ((h.next (below1 w _)).next (below1 _ _))
  clear h
  go_enter Tryd.func32, Tryd.ntmps32
  go_wp2
  go_loopw [4, 5] (fun u4 i wr => ∃ (j : Nat) (ss : Array Value), j ≤ 4 ∧ i = .int .i64 j ∧ ss.size = 4 ∧ (∀ q h, ss[q]'h = Value.int .u64 (if q < j then z q else 0)) ∧ wr = (w.alloc (.cells #[.int .u64 0, .int .u64 0, .int .u64 0, .int .u64 0] 24)).alloc (.cells ss 24)) (fun _ i _ => 4 - (intOf i).toNat)
  case atStart => exact ⟨0, _, Nat.zero_le _, rfl, rfl, by intro q h; have h' : q < 4 := h; match q, h' with | 0, _ => rfl | 1, _ => rfl | 2, _ => rfl | 3, _ => rfl, rfl⟩
  case round =>
    obtain ⟨j, ss, hj, rfl, hsz, hss, rfl⟩ := hrel
    by_cases h4 : j < 4
    · have h4i : (j : Int) < 4 := by omega
      have h4s : j < ss.size := by omega
      have hsk : ss[j]? = some (.int .u64 0) := by rw [Array.getElem?_eq_getElem h4s, hss j h4s, if_neg (by omega)]
      have HR : Hid (∀ (i : Nat) (h : i < (ss.setIfInBounds j (.int .u64 (z j))).size), (ss.setIfInBounds j (.int .u64 (z j)))[i]'h = Value.int .u64 (if i < j + 1 then z i else 0)) := set_next hss
      have hwj := hw j (.cells #[.int .u64 0, .int .u64 0, .int .u64 0, .int .u64 0] 24) (.cells ss 24)
      clear hss hw
      go_wp2_with (go_at_call 64; refine hwj.mono ?_; rintro e w' ⟨rfl, rfl⟩)
      go_roundw
      case rel => exact ⟨j + 1, ss.setIfInBounds j (.int .u64 (z j)), by omega, by go_num, by simp [hsz], HR.out, rfl⟩
      case measure => simp [intOf]; omega
    · obtain rfl : j = 4 := by omega
      have hss' : ∀ q h, ss[q]'h = Value.int .u64 (z q) := by
        intro q h; rw [hss q h, if_pos (by omega)]
      clear hss hw
      go_wp2
      exact bodyPost_ret (v := .agg (arrOf z 4)) (by simp [results, Tryd.results32, go_sem]; rfl) rfl ⟨rfl, ((Below.refl _ _).alloc (Nat.le_refl _) _).alloc (by simp) _⟩
theorem bits_nv {K V : Nat} {v : Value} {w : World} (h : NV K V v w) :
    Calls Tryd.prog 32 #[v] w fun e w' => e = .returned (A4 V) ∧ Below w.heap.size w w' := by
  obtain ⟨g, k, cap, z, rfl, hk, hN, hv⟩ := h
  refine (bits_num g k cap z w hN).mono ?_
  rintro e w' ⟨rfl, hb⟩
  refine ⟨?_, hb⟩
  rw [arr_A4 hN.2.2.1 (nv_low hN.2.2.1 hN.2.2.2.1 hv)]
set_option maxHeartbeats 1000000 in
theorem number_nv {K V : Nat} {v : Value} {w : World} (h : NV K V v w) (hK : K < 1000) (hV : V < 9223372036854775808) :
    Calls Tryd.prog 33 #[v] w fun e w' => e = .returned (.int .i64 V) ∧ w' = w := by
  obtain ⟨g, k, cap, z, rfl, hk, hN, hv⟩ := h
  obtain ⟨h1, h2, h3, h4, h5⟩ := hN
  rcases h5 with ⟨h5, _⟩ | ⟨b, off, e, hb, hc⟩
  · cases h5
  · cases e
    rcases Nat.eq_zero_or_pos k with hk0 | hk0
    · subst hk0
      have : V = 0 := by have : val z 0 = 0 := rfl
                         omega
      subst this
      go_enter Tryd.func33, Tryd.ntmps33
      go_wp2
      go_ret
      exact ⟨rfl, rfl⟩
    · have hc0 := hc 0 hk0
      have hz0 := h3 0
      have e0 : z 0 = (V : Int) := by
        have hl := nv_low h3 h4 hv
        obtain ⟨j, rfl⟩ : ∃ j, k = 1 + j := ⟨k - 1, by omega⟩
        have hs := val_split z 1 j
        have hb2 := val_bd (segW_words h3 1 j) j
        have h10 : val z 1 = z 0 := by show val z 0 + z 0 * 18446744073709551616 ^ 0 = z 0; simp [val]
        rw [hv, h10] at hs
        simp only [Int.pow_one] at hs
        have hm : 0 ≤ val (segW z 1 j) j := hb2.1
        by_cases hp : 0 < val (segW z 1 j) j
        · exfalso; omega
        · have : val (segW z 1 j) j = 0 := by omega
          rw [this] at hs; omega
      have hk1 : ¬ ((k : Int) = 0) := by omega
      rw [e0] at hc0
      simp only [Nat.add_zero] at hc0
      have hkb : (k == 0) = false := by simp; omega
      have hki : (0 : Int) < k := by omega
      clear hc h3 h4 hv e0 hz0
      go_enter Tryd.func33, Tryd.ntmps33
      go_wp2
      go_ret
      exact ⟨rfl, rfl⟩
theorem box_nv {w0 w : World} {B : Nat} {t : TypeId} (hB : B < 2 ^ 256) (hb : Below (w0.alloc (.cells #[.int .u64 (W4 B 0), .int .u64 (W4 B 1), .int .u64 (W4 B 2), .int .u64 (W4 B 3)] t)).heap.size (w0.alloc (.cells #[.int .u64 (W4 B 0), .int .u64 (W4 B 1), .int .u64 (W4 B 2), .int .u64 (W4 B 3)] t)) w) :
    NV 4 B (.slice (some ⟨w0.heap.size, 0, none⟩) 4 4) w :=
  ⟨_, 4, 4, _, rfl, Nat.le_refl _, box_num (W4_words B) (A4_get B) hb, by
    rw [val_congr (x := lowW (W4 B) 4) (y := W4 B) 4 (fun i hi => lowW_lt hi), W4_val4 hB]⟩
set_option maxHeartbeats 1000000 in
theorem field_any (B at_ n : Nat) (w : World) (hB : B < 2 ^ 256) (ha : at_ ≤ 600) (hn : n ≤ 600) :
    Calls Tryd.prog 35 #[A4 B, .int .i64 at_, .int .i64 n] w fun e w' => ∃ r, e = .returned r ∧ NT 19 (B / 2 ^ at_ % 2 ^ n) r w' ∧ Below w.heap.size w w' := by
  have hbx := box_nv (w0 := w) (B := B) (t := 24) hB (Below.refl _ _)
  go_enter Tryd.func35, Tryd.ntmps35
  go_wp2_with (first
    | (have := hA2; go_at_call 57; refine (rleft_nv n (by decide) hn hh).mono ?_; rintro e w3 ⟨v3, rfl, hl, hb3⟩; replace hx := hx.next hb3; have hA3 := bnext hA2 hb3)
    | (have := hA1; go_at_call 34; refine (rright_nv n (by decide) hn hx).mono ?_; rintro e w2 ⟨v2, b2, rfl, hh, hb2⟩; replace hx := hx.next hb2; have hA2 := bnext hA1 hb2)
    | (go_at_call 34; refine (rright_nv at_ (by decide) ha hbx).mono ?_; rintro e w1 ⟨v1, b1, rfl, hx, hb1⟩; have hA1 := bnext (w0 := w) bgo hb1)
    | (go_at_call 63; refine (rless_nt (by decide) (by decide) hx hl (Nat.div_mul_le_self _ _)).mono ?_; rintro e w4 ⟨v4, rfl, hr, hb4⟩; have hA4 := bnext hA3 hb4))
  go_ret
  refine ⟨_, rfl, ?_, hA4⟩
  rw [show B / 2 ^ at_ % 2 ^ n = B / 2 ^ at_ - B / 2 ^ at_ / 2 ^ n * 2 ^ n by have := Nat.div_add_mod' (B / 2 ^ at_) (2 ^ n); omega]
  exact hr
end
section
set_option maxHeartbeats 1000000 in
theorem lay_any (B A at_ K : Nat) (v : Value) (w : World) (hB : B < 2 ^ 256) (hK : K < 900) (ha : at_ ≤ 600) (h : NV K A v w) :
    Calls Tryd.prog 27 #[A4 B, v, .int .i64 at_] w fun e w' => e = .returned (A4 (B + A * 2 ^ at_)) ∧ Below w.heap.size w w' := by
  have c52 : ∀ W, Below w.heap.size w W → Calls Tryd.prog 57 #[v, .int .i64 at_] W fun e w' => ∃ v', e = .returned v' ∧ NV (K + 11) (A * 2 ^ at_) v' w' ∧ Below W.heap.size W w' := fun W hW => rleft_nv at_ (by omega) ha (h.next hW)
  clear h
  go_enter Tryd.func27, Tryd.ntmps27
  go_wp2
  go_region_with (first
    | (go_at_call 57; refine (c52 _ bgo).mono ?_; rintro e w1 ⟨v1, rfl, hl, hb1⟩; have hbx := box_nv (w0 := w) (B := B) (t := 24) hB (bnext bgo hb1); obtain ⟨hc1, hf1⟩ := bcell hb1; have hz1_0 : w.heap.size < w1.heap.size := lt_below hb1 ltg; have hl1_0 := Nat.le_of_lt hz1_0; have hz1_1 : w.heap.size + 1 < w1.heap.size := lt_below hb1 ltg; have hl1_1 := Nat.le_of_lt hz1_1; have hA1 := bnext (w0 := w) bgo hb1; have hs1 := hA1.size; clear hb1)
    | (go_at_call 55; refine (radd_nv (by decide) (by omega) hbx hl).mono ?_; rintro e w2 ⟨v2, rfl, hs, hb2⟩; obtain ⟨hc2, hf2⟩ := bcell hb2; have hz2_0 : w.heap.size < w2.heap.size := lt_below hb2 ltg; have hl2_0 := Nat.le_of_lt hz2_0; have hz2_1 : w.heap.size + 1 < w2.heap.size := lt_below hb2 ltg; have hl2_1 := Nat.le_of_lt hz2_1; have hA2 := bnext (w0 := w) bgo hb2; have hs2 := hA2.size; clear hb2)
    | (go_at_call 32; refine (bits_nv hs).mono ?_; rintro e w3 ⟨rfl, hb3⟩; obtain ⟨hc3, hf3⟩ := bcell hb3; have hz3_0 : w.heap.size < w3.heap.size := lt_below hb3 ltg; have hl3_0 := Nat.le_of_lt hz3_0; have hz3_1 : w.heap.size + 1 < w3.heap.size := lt_below hb3 ltg; have hl3_1 := Nat.le_of_lt hz3_1; have hA3 := bnext (w0 := w) bgo hb3; have hs3 := hA3.size; clear hb3))
  have hsm := cell_set_map
  go_wp2
  exact bodyPost_ret (v := A4 (B + A * 2 ^ at_)) (by simp only [results, Tryd.results27]; go_simp) rfl ⟨rfl, bgo⟩
theorem rfits4 (n : Int) (B : Nat) (hB : B < 2 ^ 256) (w : World) :
    Calls Tryd.prog 18 #[.int .i64 n, A4 B] w fun x w' => x = .returned (.bool (decide (okN n ∧ B < 2 ^ (widthN n).toNat))) ∧ Below w.heap.size w w' := by
  refine (rfits_any n (W4 B) (W4_words B) _ (A4_get B) rfl w).mono ?_
  rintro x w' ⟨rfl, hb⟩
  refine ⟨?_, hb⟩
  have hwd := (fields_bounds n).2.1
  have e : (fitsP n (W4 B)) ↔ (okN n ∧ B < 2 ^ (widthN n).toNat) := by
    unfold fitsP
    rw [lenL_low]
    have := len4_le (k := (widthN n).toNat) hB
    rw [show (((widthN n).toNat : Nat) : Int) = widthN n by omega] at this
    rw [this]
  rw [decide_eq_decide.2 e]
end
section
/-- a block holds four words of a number, from a place on -/
structure Four (w : World) (g o k : Nat) : Prop where
  cell : ∀ i, i < 4 → w.cell? ⟨g, o + i, none⟩ = some (.int .u64 (W4 k i))
theorem Four.next {w w' : World} {g o k : Nat} (h : Four w g o k) (hg : g < w.heap.size) (hb : Below w.heap.size w w') : Four w' g o k :=
  ⟨fun i hi => by rw [hb.cell (p := ⟨g, o + i, none⟩) hg]; exact h.cell i hi⟩
/-- a block holds a datum -/
structure Dc (w : World) (g : Nat) (c : Int) (s b : Bool) (x : Int) (k : Nat) : Prop where
  c0 : w.cell? ⟨g, 0, none⟩ = some (.int .i64 c)
  c1 : w.cell? ⟨g, 1, none⟩ = some (.bool s)
  c2 : w.cell? ⟨g, 2, none⟩ = some (.bool b)
  c3 : w.cell? ⟨g, 3, none⟩ = some (.int .i64 x)
  c4 : w.cell? ⟨g, 4, none⟩ = some (.int .u64 (W4 k 0))
  c5 : w.cell? ⟨g, 5, none⟩ = some (.int .u64 (W4 k 1))
  c6 : w.cell? ⟨g, 6, none⟩ = some (.int .u64 (W4 k 2))
  c7 : w.cell? ⟨g, 7, none⟩ = some (.int .u64 (W4 k 3))
theorem Dc.next {w w' : World} {g : Nat} {c : Int} {s b : Bool} {x : Int} {k : Nat} (h : Dc w g c s b x k) (hg : g < w.heap.size) (hb : Below w.heap.size w w') : Dc w' g c s b x k :=
  ⟨by rw [hb.cell (p := ⟨g, 0, none⟩) hg, h.c0], by rw [hb.cell (p := ⟨g, 1, none⟩) hg, h.c1], by rw [hb.cell (p := ⟨g, 2, none⟩) hg, h.c2], by rw [hb.cell (p := ⟨g, 3, none⟩) hg, h.c3],
   by rw [hb.cell (p := ⟨g, 4, none⟩) hg, h.c4], by rw [hb.cell (p := ⟨g, 5, none⟩) hg, h.c5], by rw [hb.cell (p := ⟨g, 6, none⟩) hg, h.c6], by rw [hb.cell (p := ⟨g, 7, none⟩) hg, h.c7]⟩
/-- what stands in the words below i -/
def mo (A B i : Nat) : Bool := decide (val (W4 B) i < val (W4 A) i)
attribute [local irreducible] W4 mo
end
section
theorem owns_new {w : World} {base g k cap n : Nat} {e : TypeId} {xs : List Value} (h : w.ownsRow base e 1 (.slice (some ⟨g, 0, none⟩) k cap) n xs) : base ≤ g := by
  rcases h.2 with ⟨h, _⟩ | ⟨g', cap', cur, he, hb, _⟩
  · cases h
  · cases he; exact hb
set_option maxHeartbeats 1000000 in
theorem trimf_some (b off n c : Nat) (x : Nat → Int) (w : World) (hn : n < 4294967296) (h : Num w (some ⟨b, off, none⟩) n c x) :
    Calls Tryd.prog 59 #[.slice (some ⟨b, off, none⟩) n c] w fun e w' => ∃ g cap, e = .returned (.slice (some ⟨g, 0, none⟩) (sizeL x n) cap) ∧ Num w' (some ⟨g, 0, none⟩) (sizeL x n) cap x ∧ Below w.heap.size w w' ∧ w.heap.size ≤ g := by
  obtain ⟨h1, h2, h3, h4, h5⟩ := h
  have hc : b < w.heap.size ∧ ∀ i, i < n → w.cell? ⟨b, off + i, none⟩ = some (.int .u64 (x i)) := by
    rcases h5 with ⟨h, _⟩ | ⟨b', off', h, hbs, hc⟩
    · cases h
    · cases h; exact ⟨hbs, hc⟩
  obtain ⟨hbs, hc⟩ := hc
  clear h5
  obtain ⟨i0, hi, hz0, hz1, hz2⟩ := info_parts Tryd.info22
  unfold maxLen at h2
  go_enter Tryd.func59, Tryd.ntmps59
  go_wp2
  go_loop [3] (fun t => ∃ k : Nat, k ≤ n ∧ sizeL x k = sizeL x n ∧ (∀ i, k ≤ i → x i = 0) ∧ t = .int .i64 k) (fun t => (intOf t).toNat)
  case atStart => exact ⟨n, Nat.le_refl _, rfl, h4, rfl⟩
  case round =>
    obtain ⟨k, hk, hs, hz, rfl⟩ := hrel
    clear h4
    by_cases h0 : k = 0
    · subst h0
      have HS : Hid (sizeL x n = 0) := hs.symm
      have HN : Hid (Num (w.alloc (.cells #[] 22)) (some ⟨w.heap.size, 0, none⟩) 0 0 x) := ⟨Nat.le_refl _, by unfold maxLen; omega, h3, hz, Or.inr ⟨w.heap.size, 0, rfl, by simp, fun i hi => by omega⟩⟩
      clear hs hz hc h3
      go_wp2
      go_ret
      refine ⟨w.heap.size, 0, ?_, ?_, (Below.refl _ _).alloc (Nat.le_refl _) _, Nat.le_refl _⟩
      · rw [HS.out]; rfl
      · rw [HS.out]; exact HN.out
    · obtain ⟨j, rfl⟩ : ∃ j, k = j + 1 := ⟨k - 1, by omega⟩
      have hcj := hc j (by omega)
      by_cases hzj : x j = 0
      · have HS : Hid (sizeL x j = sizeL x n) := by
          have : sizeL x (j + 1) = sizeL x j := by simp [sizeL, hzj]
          exact this.symm.trans hs
        have HZ : Hid (∀ i, j ≤ i → x i = 0) := fun i hji => by
          by_cases e : i = j
          · rw [e]; exact hzj
          · exact hz i (by omega)
        clear hs hz hc
        go_wp2
        go_round
        case rel => exact ⟨j, by omega, HS.out, HZ.out, by go_num⟩
        case measure => simp [intOf]
      · have HS : Hid (sizeL x n = j + 1) := by
          have : sizeL x (j + 1) = j + 1 := by simp [sizeL, hzj]
          exact hs.symm.trans this
        have HZ : Hid (∀ i, j + 1 ≤ i → x i = 0) := hz
        have HC : Hid (∀ i, i < n → w.cell? ⟨b, off + i, none⟩ = some (.int .u64 (x i))) := hc
        clear hs hz hc
        have HOWN : (w.alloc (.cells #[] 22)).ownsRow w.heap.size 22 1 (.slice (some ⟨w.heap.size, 0, none⟩) 0 0) 0 [] :=
          ⟨rfl, Or.inr ⟨w.heap.size, 0, #[], rfl, Nat.le_refl _, (MapKept.heap_alloc w _).1, Nat.le_refl _, by unfold maxLen; omega, rfl, rfl⟩⟩
        have HNEWS : ∀ (q : Nat) (u : Value), ((List.range (j + 1)).map fun i => Value.int .u64 (x i))[q]? = some u → (w.alloc (.cells #[] 22)).cell? ((⟨b, off, none⟩ : Addr).add q) = some u := by
          intro q u hq
          have hql : q < j + 1 := by
            rcases Nat.lt_or_ge q (j + 1) with h | h
            · exact h
            · rw [List.getElem?_eq_none (by simpa using h)] at hq; cases hq
          have e2 : u = .int .u64 (x q) := by simpa [hql] using hq.symm
          rw [e2]
          have ea : (⟨b, off, none⟩ : Addr).add q = ⟨b, off + q, none⟩ := by simp [Addr.add]
          rw [ea]
          exact (((Below.refl w.heap.size w).alloc (Nat.le_refl _) _).cell (p := ⟨b, off + q, none⟩) hbs).trans (HC.out q (by omega))
        have HONE : ∀ u ∈ ((List.range (j + 1)).map fun i => Value.int .u64 (x i)), u.oneCell' = true := by
          intro u hu
          obtain ⟨q, _, rfl⟩ := List.mem_map.1 hu
          rfl
        go_wp2_with (at_builtin; refine wpList_append_lies _ rfl (.tmp 18) (.tmp 21) 55 rfl w.heap.size 22 i0 (.int .u64 0) 1 8 Tryd.underlying55 hi hz0 hz1 hz2 rfl (by decide) (.slice (some ⟨w.heap.size, 0, none⟩) 0 0) 0 [] rfl HOWN ⟨b, off, none⟩ (j + 1) c ((List.range (j + 1)).map fun i => Value.int .u64 (x i)) rfl (by simp) HNEWS HONE (by omega) (by unfold maxLen; omega) (by omega) (by simp) (w.heap.size + 1) (by simp) ?_; intro g cap w1 hown hgrow hat hlt; clear HOWN HNEWS HONE)
        have hown' : w1.ownsRow w.heap.size 22 1 (.slice (some ⟨g, 0, none⟩) (j + 1) cap) (j + 1) ((List.range (j + 1)).map fun i => Value.int .u64 (x i)) := by
          have e0 : 0 + (j + 1) = j + 1 := by omega
          rw [e0] at hown
          simpa using hown
        have HG := owns_new hown'
        have HN := num_of_owns (w := w) h3 HZ.out hown' hlt
        have HB : Below w.heap.size w w1 := ((Below.refl _ _).alloc (Nat.le_refl _) _).grown hgrow (by simp) (by intro k hk; cases hk; exact Nat.le_refl _)
        clear hown hown' hgrow
        go_wp2
        go_ret
        refine ⟨g, cap, ?_, ?_, HB, HG⟩
        · rw [HS.out]; simp
        · rw [HS.out]; exact HN

set_option maxHeartbeats 400000 in
theorem trimf_nil (x : Nat → Int) (w : World) (hx : ∀ i, x i = 0) :
    Calls Tryd.prog 59 #[.slice none 0 0] w fun e w' => ∃ g cap, e = .returned (.slice (some ⟨g, 0, none⟩) 0 cap) ∧ Num w' (some ⟨g, 0, none⟩) 0 cap x ∧ Below w.heap.size w w' ∧ w.heap.size ≤ g := by
  go_enter Tryd.func59, Tryd.ntmps59
  go_wp2
  go_loop [3] (fun t => t = .int .i64 0) (fun t => (intOf t).toNat)
  case atStart => rfl
  case round =>
    subst hrel
    go_wp2
    go_ret
    refine ⟨w.heap.size, 0, rfl, ?_, (Below.refl _ _).alloc (Nat.le_refl _) _, Nat.le_refl _⟩
    exact ⟨Nat.le_refl _, by unfold maxLen; omega, fun i => by rw [hx i]; decide, fun i _ => hx i, Or.inr ⟨w.heap.size, 0, rfl, by simp, fun i hi => by omega⟩⟩
theorem trimf_any (a : Option Addr) (n c : Nat) (x : Nat → Int) (w : World) (hn : n < 4294967296) (h : Num w a n c x) :
    Calls Tryd.prog 59 #[.slice a n c] w fun e w' => ∃ g cap, e = .returned (.slice (some ⟨g, 0, none⟩) (sizeL x n) cap) ∧ Num w' (some ⟨g, 0, none⟩) (sizeL x n) cap x ∧ Below w.heap.size w w' ∧ w.heap.size ≤ g := by
  have h' := h
  obtain ⟨h1, h2, h3, h4, h5⟩ := h'
  rcases h5 with ⟨rfl, rfl⟩ | ⟨b, off, rfl, _, _⟩
  · obtain rfl : n = 0 := by omega
    exact trimf_nil x w (fun i => h4 i (Nat.zero_le _))
  · exact trimf_some b off n c x w hn h
set_option maxHeartbeats 400000 in
theorem off_any (c : Int) (w : World) (hc : 0 ≤ c ∧ c ≤ 18446744073709551615) :
    Calls Tryd.prog 83 #[.int .u64 c] w fun e w' => ∃ g k cap z, e = .returned (.slice (some ⟨g, 0, none⟩) k cap) ∧ k ≤ 1 ∧ Num w' (some ⟨g, 0, none⟩) k cap z ∧ val z k = c ∧ Below w.heap.size w w' ∧ sizeL z k = k := by
  have hN := num_one w c hc
  have hT := trim_any _ 1 1 (oneW c) _ (by omega) hN
  have hle := sizeL_le (oneW c) 1
  have HV : Hid (val (oneW c) (sizeL (oneW c) 1) = c) := by show _ = _; rw [val_bare, val_one _ 1 (by omega)]
  have HB := below1 w (.cells #[.int .u64 c] 22)
  have HST : Hid (sizeL (oneW c) (sizeL (oneW c) 1) = sizeL (oneW c) 1) := sizeL_sizeL _ _
  generalize sizeL (oneW c) 1 = s at *
  clear hN
  go_enter Tryd.func83, Tryd.ntmps83
  go_wp2_with (go_at_call 59; refine hT.mono ?_; rintro e w1 ⟨g, cap, rfl, hN, hB⟩)
  go_ret
  exact ⟨g, s, cap, _, rfl, hle, hN, HV.out, HB.trans (hB.mono HB.size), HST.out⟩
/-- the quotient's words from k on -/
def quoKc (x : Nat → Int) (d : Int) (s k i : Nat) : Int := if k ≤ i ∧ i < s then quoW x d s i else 0
set_option maxHeartbeats 1000000 in
theorem smf_any (a : Option Addr) (s c : Nat) (x : Nat → Int) (d : Int) (w : World) (hs : s < 100000) (h : Num w a s c x) (hd : 0 < d ∧ d ≤ 18446744073709551615) :
    Calls Tryd.prog 62 #[.slice a s c, .int .u64 d] w fun e w' => ∃ g k cap z g' k' cap' z', e = .returned (.tuple #[.slice (some ⟨g, 0, none⟩) k cap, .slice (some ⟨g', 0, none⟩) k' cap']) ∧ k ≤ s ∧ k' ≤ 1 ∧ Num w' (some ⟨g, 0, none⟩) k cap z ∧ Num w' (some ⟨g', 0, none⟩) k' cap' z' ∧ val z k = val x s / d ∧ sizeL z k = k ∧ val z' k' = val x s % d ∧ sizeL z' k' = k' ∧ Below w.heap.size w w' ∧ w.heap.size ≤ g := by
  have hx := h.2.2.1
  have H := fun j hj w => limDiv_ok x d s hx hd j hj w
  have hd0 : (d == 0) = false := by simp; omega
  have hmk := fun w => make_any (s : Int) s rfl (by omega) w
  have hA := apart_of h
  have hBW := below1 w (.cells (arrOf (fun _ => 0) s) 22)
  have hnx := h.next hBW
  have hO := Own.new w (fun _ => 0) s
  have hqv := quo_val hx hd.1 s
  have HQW : Hid (Words (quoW x d s)) := quoW_words hx hd.1 s
  have hrb := remJ_bd x d s s hd.1
  have HB : Hid (Below w.heap.size w (w.alloc (.cells (arrOf (fun _ => 0) s) 22))) := hBW
  clear hBW h hx
  go_enter Tryd.func62, Tryd.ntmps62
  go_wp2
  generalize w.alloc (.cells (arrOf (fun _ => 0) s) 22) = wA at *
  go_loopw [7, 8, 19] (fun c i u19 wr => ∃ (k : Nat), k ≤ s ∧ i = .int .i64 ((k : Int) - 1) ∧ c = .int .u64 (remJ x d s (s - k)) ∧ Own w.heap.size s (quoKc x d s k) wr ∧ Upd w.heap.size wA wr) (fun _ i _ _ => (intOf i + 1).toNat)
  case atStart => exact ⟨s, Nat.le_refl _, by go_num, by rw [Nat.sub_self]; rfl, hO.congr fun i _ => by unfold quoKc; rw [if_neg (by omega)], Upd.refl _ _⟩
  case round =>
    clear hO
    obtain ⟨k, hk, rfl, rfl, hO, hU⟩ := hrel
    by_cases h0 : k = 0
    · subst h0
      have hN := hO.num (x := quoKc x d s 0) (fun i => by unfold quoKc; split; exact HQW.out i; decide) 0 s s (by omega) (Nat.le_refl _) (by unfold maxLen; omega)
      have hT := trimf_any _ s s _ _ (by omega) hN
      have hle := sizeL_le (segW (quoKc x d s 0) 0 s) s
      have HV : Hid (val (segW (quoKc x d s 0) 0 s) (sizeL (segW (quoKc x d s 0) 0 s) s) = val x s / d) := by
        show _ = _
        rw [val_bare, val_congr (y := quoW x d s) s fun i hi => by rw [segW_lt _ _ _ i hi, Nat.zero_add]; unfold quoKc; rw [if_pos (by omega)], hqv.1]
      have HR : Hid (remJ x d s s = val x s % d) := hqv.2
      have HBr : Hid (Below w.heap.size w wr) := HB.out.trans (hU.below (Nat.le_refl _))
      have HST : Hid (sizeL (segW (quoKc x d s 0) 0 s) (sizeL (segW (quoKc x d s 0) 0 s) s) = sizeL (segW (quoKc x d s 0) 0 s) s) := sizeL_sizeL _ _
      generalize segW (quoKc x d s 0) 0 s = qz at *
      generalize sizeL qz s = k1 at *
      have hof := fun wr => off_any (remJ x d s s) wr (by omega)
      rw [Nat.sub_zero]
      generalize remJ x d s s = rm at *
      clear hN hO hU H hqv
      go_wp2_with (go_at_call 59; refine hT.mono ?_; rintro e w1 ⟨g, cap, rfl, hN1, hB1, hG1⟩; clear hT)
      go_wp2_with (go_at_call 83; refine (hof _).mono ?_; rintro e w2 ⟨g2, k2, p2, z2, rfl, hk2, hN2, hv2, hB2, hS2⟩; clear hof)
      go_ret2
      exact ⟨g, k1, cap, qz, g2, k2, p2, z2, rfl, hle, hk2, hN1.next hB2, hN2, HV.out, HST.out, by rw [hv2, HR.out], hS2, (HBr.out.trans (hB1.mono HBr.out.size)).trans (hB2.mono (Nat.le_trans HBr.out.size hB1.size)), Nat.le_trans HBr.out.size hG1⟩
    · obtain ⟨j, rfl⟩ : ∃ j, k = j + 1 := ⟨k - 1, by omega⟩
      have hjm : (j : Int) < s := by omega
      have ej : ((j + 1 : Nat) : Int) - 1 = j := by omega
      have ej2 : s - (j + 1) = s - 1 - j := by omega
      rw [ej, ej2]
      obtain ⟨b, off, rfl, hbs, hc⟩ := (hU.num' hA hnx).cells (by omega)
      have hcx := hc j (by omega)
      have hcj : ∃ u, wr.cell? ⟨w.heap.size, j, none⟩ = some (.int .u64 u) := ⟨_, hO.cell j (by omega)⟩
      obtain ⟨u, hcj⟩ := hcj
      have hfj := hO.frozen j
      have HJ := H j (by omega)
      have HO : Hid (Own w.heap.size s (quoKc x d s j) (wr.setCell ⟨w.heap.size, j, none⟩ (.int .u64 (quoW x d s j)))) := (hO.set j (quoW x d s j)).congr fun i hi => by
        unfold quoKc
        by_cases e : i = j
        · subst e; rw [if_pos rfl, if_pos (by omega)]
        · rw [if_neg e]
          by_cases e2 : j + 1 ≤ i ∧ i < s
          · rw [if_pos e2, if_pos (by omega)]
          · rw [if_neg e2, if_neg (by omega)]
      have HU : Hid (Upd w.heap.size wA (wr.setCell ⟨w.heap.size, j, none⟩ (.int .u64 (quoW x d s j)))) := hU.set j _
      clear hO hU H ej ej2 hc hqv hA hnx
      go_wp2_with (go_at_call 82; refine (HJ _).mono ?_; rintro e w' ⟨rfl, m', rfl⟩)
      go_roundw
      case rel => exact ⟨j, by omega, by go_num, rfl, HO.out, HU.out.drewN m'⟩
      case measure => simp [intOf]
set_option maxHeartbeats 1000000 in
theorem overf_one (ga gb s c c' : Nat) (x y : Nat → Int) (w : World) (hs : s < 20001) (h : Num w (some ⟨ga, 0, none⟩) s c x) (h' : Num w (some ⟨gb, 0, none⟩) 1 c' y) (hys : sizeL y 1 = 1) :
    Calls Tryd.prog 30 #[.slice (some ⟨ga, 0, none⟩) s c, .slice (some ⟨gb, 0, none⟩) 1 c'] w fun e w' => ∃ g k cap z g' k' cap' z', e = .returned (.tuple #[.slice (some ⟨g, 0, none⟩) k cap, .slice (some ⟨g', 0, none⟩) k' cap']) ∧ k ≤ s ∧ k' ≤ 1 ∧ Num w' (some ⟨g, 0, none⟩) k cap z ∧ Num w' (some ⟨g', 0, none⟩) k' cap' z' ∧ val z k = val x s / val y 1 ∧ sizeL z k = k ∧ val z' k' = val x s % val y 1 ∧ sizeL z' k' = k' ∧ Below w.heap.size w w' ∧ w.heap.size ≤ g := by
  have hy := h'.2.2.1
  have c31 := size_num _ 1 c' y w (by omega) h'
  rw [hys] at c31
  have hy0 : y 0 ≠ 0 := by have := sizeL_top (x := y) 1 (by omega); rw [hys] at this; exact this
  have hyb := hy 0
  have ev : val y 1 = y 0 := by simp [val]
  have c107 := smf_any (some ⟨ga, 0, none⟩) s c x (y 0) w (by omega) h (by omega)
  have hc : gb < w.heap.size ∧ w.cell? ⟨gb, 0, none⟩ = some (.int .u64 (y 0)) := by
    rcases h'.2.2.2.2 with ⟨h, _⟩ | ⟨b', off', h, hbs, hc⟩
    · cases h
    · cases h; exact ⟨hbs, hc 0 (by omega)⟩
  obtain ⟨hgb, hcc⟩ := hc
  rw [ev]
  clear h h'
  go_enter Tryd.func30, Tryd.ntmps30
  go_wp2_with (first | (go_at_call 61; refine c31.mono ?_; rintro e w' ⟨rfl, rfl⟩) | (go_at_call 62; refine c107.mono ?_; rintro e w1 ⟨g, k, cap, z, g', k', cap', z', rfl, hk, hk', hN, hN', hv, hs1, hv', hs2, hB, hG⟩))
  go_ret2
  exact ⟨g, k, cap, z, g', k', cap', z', rfl, hk, hk', hN, hN', hv, hs1, hv', hs2, hB, hG⟩
/-- a number's quotient and rest by one word: the quotient lies in new memory -/
theorem over_new {K N D : Nat} {vn vd : Value} {w : World} (hK : K ≤ 20000) (h : NT K N vn w) (h' : NT 1 D vd w) (hD : D ≠ 0) :
    Calls Tryd.prog 30 #[vn, vd] w fun e w' => ∃ g k cap r, e = .returned (.tuple #[.slice (some ⟨g, 0, none⟩) k cap, r]) ∧ w.heap.size ≤ g ∧ NT K (N / D) (.slice (some ⟨g, 0, none⟩) k cap) w' ∧ NT 1 (N % D) r w' ∧ Below w.heap.size w w' := by
  obtain ⟨ga, s, c, x, rfl, hs, hN, hx, hxs⟩ := h
  obtain ⟨gb, t, c', y, rfl, ht, hN', hy, hys⟩ := h'
  have ht1 : t = 1 := by
    rcases Nat.eq_zero_or_pos t with e | e
    · subst e
      have : val y 0 = 0 := rfl
      omega
    · omega
  subst ht1
  refine (overf_one ga gb s c c' x y w (by omega) hN hN' hys).mono ?_
  rintro e w' ⟨g, k, cap, z, g', k', cap', z', e1, hk, hk', hA, hB, hv, hs1, hv', hs2, hb, hg⟩
  refine ⟨g, k, cap, _, e1, hg, ⟨g, k, cap, z, rfl, by omega, hA, ?_, hs1⟩, ⟨g', k', cap', z', rfl, hk', hB, ?_, hs2⟩, hb⟩
  · rw [hv, hx, hy]; rfl
  · rw [hv', hx, hy]; rfl
end
section
/-- bits side by side, as the walk finds them -/
theorem dl_bits {t0 x t1 y t2 z : Int} (h0 : 0 ≤ t0 ∧ t0 < 4) (h1 : 0 ≤ x ∧ x < 2) (h2 : 0 ≤ t1 ∧ t1 < 4) (h3 : 0 ≤ y ∧ y < 2) (h4 : 0 ≤ t2 ∧ t2 < 8) (h5 : 0 ≤ z ∧ z < 2) :
    bits .or .i64 (bits .or .i64 (bits .or .i64 (bits .or .i64 (bits .or .i64 (t0 * 256) (x * 128)) (t1 * 32)) (y * 16)) (t2 * 2)) z = t0 * 256 + x * 128 + t1 * 32 + y * 16 + t2 * 2 + z := by
  obtain ⟨a, rfl⟩ := Int.eq_ofNat_of_zero_le h0.1
  obtain ⟨b, rfl⟩ := Int.eq_ofNat_of_zero_le h1.1
  obtain ⟨c, rfl⟩ := Int.eq_ofNat_of_zero_le h2.1
  obtain ⟨d, rfl⟩ := Int.eq_ofNat_of_zero_le h3.1
  obtain ⟨e, rfl⟩ := Int.eq_ofNat_of_zero_le h4.1
  obtain ⟨f, rfl⟩ := Int.eq_ofNat_of_zero_le h5.1
  have h := upTo_all (f := fun i => decide (bits .or .i64 (bits .or .i64 (bits .or .i64 (bits .or .i64 (bits .or .i64 (((i / 256 : Nat) : Int) * 256) (((i / 128 % 2 : Nat) : Int) * 128)) (((i / 32 % 4 : Nat) : Int) * 32)) (((i / 16 % 2 : Nat) : Int) * 16)) (((i / 2 % 8 : Nat) : Int) * 2)) ((i % 2 : Nat) : Int) = (i : Int))) (m := 1024) (by decide +kernel) (a * 256 + b * 128 + c * 32 + d * 16 + e * 2 + f) (by omega)
  have h' := of_decide_eq_true h
  obtain ⟨i, hi⟩ : ∃ i, i = a * 256 + b * 128 + c * 32 + d * 16 + e * 2 + f := ⟨_, rfl⟩
  rw [← hi] at h'
  rw [show i / 256 = a by omega, show i / 128 % 2 = b by omega, show i / 32 % 4 = c by omega, show i / 16 % 2 = d by omega, show i / 2 % 8 = e by omega, show i % 2 = f by omega] at h'
  rw [h', hi]
  omega
structure Thr (w : World) (g : Nat) (x y z : Int) : Prop where
  c0 : w.cell? ⟨g, 0, none⟩ = some (.int .i64 x)
  c1 : w.cell? ⟨g, 1, none⟩ = some (.int .i64 y)
  c2 : w.cell? ⟨g, 2, none⟩ = some (.int .i64 z)
set_option maxHeartbeats 2000000 in
theorem enc_0 (n a b c g : Nat) (w : World) (hn : n < 1000) (ha : n / 100 = a) (hb : n / 10 % 10 = b) (hc : n % 10 = c) (hg : a / 8 * 4 + b / 8 * 2 + c / 8 = g) (R : Int)
    (hR : ((((a : Int) / 2 % 4) : Int) * 256 + (a : Int) % 2 * 128 + ((b : Int) / 2 % 4) * 32 + (b : Int) % 2 * 16 + ((c : Int) / 2 % 4) * 2 + (c : Int) % 2) = R)
    (c21 : ∀ W, Calls Tryd.prog 81 #[.int .i64 (g : Int)] W fun r w' => r = .returned (.agg #[.int .i64 10, .int .i64 11, .int .i64 22]) ∧ Below W.heap.size W w') :
    Calls Tryd.prog 60 #[.int .i64 (n : Int)] w fun r w' => r = .returned (.tuple #[.int .i64 R, .int .i64 0]) ∧ Below w.heap.size w w' := by
  have h0 : ¬ (n : Int) < 0 := by omega
  have h9 : ¬ 999 < (n : Int) := by omega
  have ea : (n : Int) / 100 = (a : Int) := by omega
  have eb : (n : Int) / 10 % 10 = (b : Int) := by omega
  have ec : (n : Int) % 10 = (c : Int) := by omega
  have eg : (a : Int) / 8 * 4 + (b : Int) / 8 * 2 + (c : Int) / 8 = (g : Int) := by omega
  have la : (a : Int) / 8 ≤ 1 := by omega
  have lb : (b : Int) / 8 ≤ 1 := by omega
  go_enter Tryd.func60, Tryd.ntmps60
  go_wp2_with (go_at_call 81; refine (c21 _).mono ?_; rintro r w1 ⟨rfl, hb1⟩; obtain ⟨hc1, hf1⟩ := bcell hb1; have hz1_0 : w.heap.size < w1.heap.size := lt_below hb1 ltg; have hl1_0 := Nat.le_of_lt hz1_0; have hA1 := bnext (w0 := w) bgo hb1; have hs1 := hA1.size; clear hb1)
  go_loopw [39] (fun t wr => ∃ i : Nat, i ≤ 3 ∧ t = .int .i64 i ∧ Thr wr w.heap.size a b c ∧ Thr wr w1.heap.size 10 11 22 ∧ Thr wr (w1.heap.size + 1) (if 0 < i then ((a : Int) / 2 % 4) else 0) (if 1 < i then ((b : Int) / 2 % 4) else 0) (if 2 < i then ((c : Int) / 2 % 4) else 0) ∧ (∀ j, wr.frozen? ⟨w1.heap.size + 1, j, none⟩ = false) ∧ Below w.heap.size w wr ∧ w1.heap.size + 1 < wr.heap.size) (fun t _ => 3 - (intOf t).toNat)
  case atStart => exact ⟨0, by decide, rfl, ⟨by go_simp, by go_simp, by go_simp⟩, ⟨by go_simp, by go_simp, by go_simp⟩, ⟨by go_simp, by go_simp, by go_simp⟩, fun j => by go_simp, bgo, by simp⟩
  case round =>
    obtain ⟨i, hi, rfl, ⟨p0, p1, p2⟩, ⟨q0, q1, q2⟩, ⟨s0, s1, s2⟩, hfr, hbw, hsz⟩ := hrel
    have hl0 : w.heap.size < wr.heap.size := by omega
    have hl1 : w1.heap.size < wr.heap.size := by omega
    have hne1 : ¬ w.heap.size = w1.heap.size + 1 := by omega
    have hne2 : ¬ w1.heap.size = w1.heap.size + 1 := by omega
    have hi' : i = 0 ∨ i = 1 ∨ i = 2 ∨ i = 3 := by omega
    rcases hi' with rfl | rfl | rfl | rfl
    · go_wp2
      go_roundw
      case rel => exact ⟨1, by omega, by go_num, ⟨by go_simp, by go_simp, by go_simp⟩, ⟨by go_simp, by go_simp, by go_simp⟩, ⟨by go_simp, by go_simp, by go_simp⟩, fun j => by go_simp, bgo, by simpa using hsz⟩
      case measure => simp [intOf]
    · go_wp2
      go_roundw
      case rel => exact ⟨2, by omega, by go_num, ⟨by go_simp, by go_simp, by go_simp⟩, ⟨by go_simp, by go_simp, by go_simp⟩, ⟨by go_simp, by go_simp, by go_simp⟩, fun j => by go_simp, bgo, by simpa using hsz⟩
      case measure => simp [intOf]
    · go_wp2
      go_roundw
      case rel => exact ⟨3, by omega, by go_num, ⟨by go_simp, by go_simp, by go_simp⟩, ⟨by go_simp, by go_simp, by go_simp⟩, ⟨by go_simp, by go_simp, by go_simp⟩, fun j => by go_simp, bgo, by simpa using hsz⟩
      case measure => simp [intOf]
    · go_wp2
      exact bodyPost_ret (v := .tuple #[.int .i64 R, .int .i64 0]) (by
        simp only [results, Tryd.results60]
        go_simp
        rw [← hR]
        exact dl_bits (by omega) (by omega) (by omega) (by omega) (by omega) (by omega)) rfl ⟨rfl, hbw⟩
set_option maxHeartbeats 2000000 in
theorem enc_1 (n a b c g : Nat) (w : World) (hn : n < 1000) (ha : n / 100 = a) (hb : n / 10 % 10 = b) (hc : n % 10 = c) (hg : a / 8 * 4 + b / 8 * 2 + c / 8 = g) (R : Int) (u2 : Int) (hu2 : 0 ≤ u2 ∧ u2 < 8) (hv2 : ¬ 10 ≤ u2)
    (hR : ((((a : Int) / 2 % 4) : Int) * 256 + (a : Int) % 2 * 128 + ((b : Int) / 2 % 4) * 32 + (b : Int) % 2 * 16 + u2 * 2 + (c : Int) % 2) = R)
    (c21 : ∀ W, Calls Tryd.prog 81 #[.int .i64 (g : Int)] W fun r w' => r = .returned (.agg #[.int .i64 10, .int .i64 11, .int .i64 u2]) ∧ Below W.heap.size W w') :
    Calls Tryd.prog 60 #[.int .i64 (n : Int)] w fun r w' => r = .returned (.tuple #[.int .i64 R, .int .i64 0]) ∧ Below w.heap.size w w' := by
  have h0 : ¬ (n : Int) < 0 := by omega
  have h9 : ¬ 999 < (n : Int) := by omega
  have ea : (n : Int) / 100 = (a : Int) := by omega
  have eb : (n : Int) / 10 % 10 = (b : Int) := by omega
  have ec : (n : Int) % 10 = (c : Int) := by omega
  have eg : (a : Int) / 8 * 4 + (b : Int) / 8 * 2 + (c : Int) / 8 = (g : Int) := by omega
  have la : (a : Int) / 8 ≤ 1 := by omega
  have lb : (b : Int) / 8 ≤ 1 := by omega
  go_enter Tryd.func60, Tryd.ntmps60
  go_wp2_with (go_at_call 81; refine (c21 _).mono ?_; rintro r w1 ⟨rfl, hb1⟩; obtain ⟨hc1, hf1⟩ := bcell hb1; have hz1_0 : w.heap.size < w1.heap.size := lt_below hb1 ltg; have hl1_0 := Nat.le_of_lt hz1_0; have hA1 := bnext (w0 := w) bgo hb1; have hs1 := hA1.size; clear hb1)
  go_loopw [39] (fun t wr => ∃ i : Nat, i ≤ 3 ∧ t = .int .i64 i ∧ Thr wr w.heap.size a b c ∧ Thr wr w1.heap.size 10 11 u2 ∧ Thr wr (w1.heap.size + 1) (if 0 < i then ((a : Int) / 2 % 4) else 0) (if 1 < i then ((b : Int) / 2 % 4) else 0) (if 2 < i then u2 else 0) ∧ (∀ j, wr.frozen? ⟨w1.heap.size + 1, j, none⟩ = false) ∧ Below w.heap.size w wr ∧ w1.heap.size + 1 < wr.heap.size) (fun t _ => 3 - (intOf t).toNat)
  case atStart => exact ⟨0, by decide, rfl, ⟨by go_simp, by go_simp, by go_simp⟩, ⟨by go_simp, by go_simp, by go_simp⟩, ⟨by go_simp, by go_simp, by go_simp⟩, fun j => by go_simp, bgo, by simp⟩
  case round =>
    obtain ⟨i, hi, rfl, ⟨p0, p1, p2⟩, ⟨q0, q1, q2⟩, ⟨s0, s1, s2⟩, hfr, hbw, hsz⟩ := hrel
    have hl0 : w.heap.size < wr.heap.size := by omega
    have hl1 : w1.heap.size < wr.heap.size := by omega
    have hne1 : ¬ w.heap.size = w1.heap.size + 1 := by omega
    have hne2 : ¬ w1.heap.size = w1.heap.size + 1 := by omega
    have hi' : i = 0 ∨ i = 1 ∨ i = 2 ∨ i = 3 := by omega
    rcases hi' with rfl | rfl | rfl | rfl
    · go_wp2
      go_roundw
      case rel => exact ⟨1, by omega, by go_num, ⟨by go_simp, by go_simp, by go_simp⟩, ⟨by go_simp, by go_simp, by go_simp⟩, ⟨by go_simp, by go_simp, by go_simp⟩, fun j => by go_simp, bgo, by simpa using hsz⟩
      case measure => simp [intOf]
    · go_wp2
      go_roundw
      case rel => exact ⟨2, by omega, by go_num, ⟨by go_simp, by go_simp, by go_simp⟩, ⟨by go_simp, by go_simp, by go_simp⟩, ⟨by go_simp, by go_simp, by go_simp⟩, fun j => by go_simp, bgo, by simpa using hsz⟩
      case measure => simp [intOf]
    · go_wp2
      go_roundw
      case rel => exact ⟨3, by omega, by go_num, ⟨by go_simp, by go_simp, by go_simp⟩, ⟨by go_simp, by go_simp, by go_simp⟩, ⟨by go_simp, by go_simp, by go_simp⟩, fun j => by go_simp, bgo, by simpa using hsz⟩
      case measure => simp [intOf]
    · go_wp2
      exact bodyPost_ret (v := .tuple #[.int .i64 R, .int .i64 0]) (by
        simp only [results, Tryd.results60]
        go_simp
        rw [← hR]
        exact dl_bits (by omega) (by omega) (by omega) (by omega) (by omega) (by omega)) rfl ⟨rfl, hbw⟩
set_option maxHeartbeats 2000000 in
theorem enc_2 (n a b c g : Nat) (w : World) (hn : n < 1000) (ha : n / 100 = a) (hb : n / 10 % 10 = b) (hc : n % 10 = c) (hg : a / 8 * 4 + b / 8 * 2 + c / 8 = g) (R : Int) (u2 : Int) (hu2 : 0 ≤ u2 ∧ u2 < 8) (hv2 : ¬ 10 ≤ u2)
    (hR : ((((a : Int) / 2 % 4) : Int) * 256 + (a : Int) % 2 * 128 + ((c : Int) / 2 % 4) * 32 + (b : Int) % 2 * 16 + u2 * 2 + (c : Int) % 2) = R)
    (c21 : ∀ W, Calls Tryd.prog 81 #[.int .i64 (g : Int)] W fun r w' => r = .returned (.agg #[.int .i64 10, .int .i64 12, .int .i64 u2]) ∧ Below W.heap.size W w') :
    Calls Tryd.prog 60 #[.int .i64 (n : Int)] w fun r w' => r = .returned (.tuple #[.int .i64 R, .int .i64 0]) ∧ Below w.heap.size w w' := by
  have h0 : ¬ (n : Int) < 0 := by omega
  have h9 : ¬ 999 < (n : Int) := by omega
  have ea : (n : Int) / 100 = (a : Int) := by omega
  have eb : (n : Int) / 10 % 10 = (b : Int) := by omega
  have ec : (n : Int) % 10 = (c : Int) := by omega
  have eg : (a : Int) / 8 * 4 + (b : Int) / 8 * 2 + (c : Int) / 8 = (g : Int) := by omega
  have la : (a : Int) / 8 ≤ 1 := by omega
  have lb : (b : Int) / 8 ≤ 1 := by omega
  go_enter Tryd.func60, Tryd.ntmps60
  go_wp2_with (go_at_call 81; refine (c21 _).mono ?_; rintro r w1 ⟨rfl, hb1⟩; obtain ⟨hc1, hf1⟩ := bcell hb1; have hz1_0 : w.heap.size < w1.heap.size := lt_below hb1 ltg; have hl1_0 := Nat.le_of_lt hz1_0; have hA1 := bnext (w0 := w) bgo hb1; have hs1 := hA1.size; clear hb1)
  go_loopw [39] (fun t wr => ∃ i : Nat, i ≤ 3 ∧ t = .int .i64 i ∧ Thr wr w.heap.size a b c ∧ Thr wr w1.heap.size 10 12 u2 ∧ Thr wr (w1.heap.size + 1) (if 0 < i then ((a : Int) / 2 % 4) else 0) (if 1 < i then ((c : Int) / 2 % 4) else 0) (if 2 < i then u2 else 0) ∧ (∀ j, wr.frozen? ⟨w1.heap.size + 1, j, none⟩ = false) ∧ Below w.heap.size w wr ∧ w1.heap.size + 1 < wr.heap.size) (fun t _ => 3 - (intOf t).toNat)
  case atStart => exact ⟨0, by decide, rfl, ⟨by go_simp, by go_simp, by go_simp⟩, ⟨by go_simp, by go_simp, by go_simp⟩, ⟨by go_simp, by go_simp, by go_simp⟩, fun j => by go_simp, bgo, by simp⟩
  case round =>
    obtain ⟨i, hi, rfl, ⟨p0, p1, p2⟩, ⟨q0, q1, q2⟩, ⟨s0, s1, s2⟩, hfr, hbw, hsz⟩ := hrel
    have hl0 : w.heap.size < wr.heap.size := by omega
    have hl1 : w1.heap.size < wr.heap.size := by omega
    have hne1 : ¬ w.heap.size = w1.heap.size + 1 := by omega
    have hne2 : ¬ w1.heap.size = w1.heap.size + 1 := by omega
    have hi' : i = 0 ∨ i = 1 ∨ i = 2 ∨ i = 3 := by omega
    rcases hi' with rfl | rfl | rfl | rfl
    · go_wp2
      go_roundw
      case rel => exact ⟨1, by omega, by go_num, ⟨by go_simp, by go_simp, by go_simp⟩, ⟨by go_simp, by go_simp, by go_simp⟩, ⟨by go_simp, by go_simp, by go_simp⟩, fun j => by go_simp, bgo, by simpa using hsz⟩
      case measure => simp [intOf]
    · go_wp2
      go_roundw
      case rel => exact ⟨2, by omega, by go_num, ⟨by go_simp, by go_simp, by go_simp⟩, ⟨by go_simp, by go_simp, by go_simp⟩, ⟨by go_simp, by go_simp, by go_simp⟩, fun j => by go_simp, bgo, by simpa using hsz⟩
      case measure => simp [intOf]
    · go_wp2
      go_roundw
      case rel => exact ⟨3, by omega, by go_num, ⟨by go_simp, by go_simp, by go_simp⟩, ⟨by go_simp, by go_simp, by go_simp⟩, ⟨by go_simp, by go_simp, by go_simp⟩, fun j => by go_simp, bgo, by simpa using hsz⟩
      case measure => simp [intOf]
    · go_wp2
      exact bodyPost_ret (v := .tuple #[.int .i64 R, .int .i64 0]) (by
        simp only [results, Tryd.results60]
        go_simp
        rw [← hR]
        exact dl_bits (by omega) (by omega) (by omega) (by omega) (by omega) (by omega)) rfl ⟨rfl, hbw⟩
set_option maxHeartbeats 2000000 in
theorem enc_3 (n a b c g : Nat) (w : World) (hn : n < 1000) (ha : n / 100 = a) (hb : n / 10 % 10 = b) (hc : n % 10 = c) (hg : a / 8 * 4 + b / 8 * 2 + c / 8 = g) (R : Int) (u1 : Int) (hu1 : 0 ≤ u1 ∧ u1 < 4) (hv1 : ¬ 10 ≤ u1) (u2 : Int) (hu2 : 0 ≤ u2 ∧ u2 < 8) (hv2 : ¬ 10 ≤ u2)
    (hR : ((((a : Int) / 2 % 4) : Int) * 256 + (a : Int) % 2 * 128 + u1 * 32 + (b : Int) % 2 * 16 + u2 * 2 + (c : Int) % 2) = R)
    (c21 : ∀ W, Calls Tryd.prog 81 #[.int .i64 (g : Int)] W fun r w' => r = .returned (.agg #[.int .i64 10, .int .i64 u1, .int .i64 u2]) ∧ Below W.heap.size W w') :
    Calls Tryd.prog 60 #[.int .i64 (n : Int)] w fun r w' => r = .returned (.tuple #[.int .i64 R, .int .i64 0]) ∧ Below w.heap.size w w' := by
  have h0 : ¬ (n : Int) < 0 := by omega
  have h9 : ¬ 999 < (n : Int) := by omega
  have ea : (n : Int) / 100 = (a : Int) := by omega
  have eb : (n : Int) / 10 % 10 = (b : Int) := by omega
  have ec : (n : Int) % 10 = (c : Int) := by omega
  have eg : (a : Int) / 8 * 4 + (b : Int) / 8 * 2 + (c : Int) / 8 = (g : Int) := by omega
  have la : (a : Int) / 8 ≤ 1 := by omega
  have lb : (b : Int) / 8 ≤ 1 := by omega
  go_enter Tryd.func60, Tryd.ntmps60
  go_wp2_with (go_at_call 81; refine (c21 _).mono ?_; rintro r w1 ⟨rfl, hb1⟩; obtain ⟨hc1, hf1⟩ := bcell hb1; have hz1_0 : w.heap.size < w1.heap.size := lt_below hb1 ltg; have hl1_0 := Nat.le_of_lt hz1_0; have hA1 := bnext (w0 := w) bgo hb1; have hs1 := hA1.size; clear hb1)
  go_loopw [39] (fun t wr => ∃ i : Nat, i ≤ 3 ∧ t = .int .i64 i ∧ Thr wr w.heap.size a b c ∧ Thr wr w1.heap.size 10 u1 u2 ∧ Thr wr (w1.heap.size + 1) (if 0 < i then ((a : Int) / 2 % 4) else 0) (if 1 < i then u1 else 0) (if 2 < i then u2 else 0) ∧ (∀ j, wr.frozen? ⟨w1.heap.size + 1, j, none⟩ = false) ∧ Below w.heap.size w wr ∧ w1.heap.size + 1 < wr.heap.size) (fun t _ => 3 - (intOf t).toNat)
  case atStart => exact ⟨0, by decide, rfl, ⟨by go_simp, by go_simp, by go_simp⟩, ⟨by go_simp, by go_simp, by go_simp⟩, ⟨by go_simp, by go_simp, by go_simp⟩, fun j => by go_simp, bgo, by simp⟩
  case round =>
    obtain ⟨i, hi, rfl, ⟨p0, p1, p2⟩, ⟨q0, q1, q2⟩, ⟨s0, s1, s2⟩, hfr, hbw, hsz⟩ := hrel
    have hl0 : w.heap.size < wr.heap.size := by omega
    have hl1 : w1.heap.size < wr.heap.size := by omega
    have hne1 : ¬ w.heap.size = w1.heap.size + 1 := by omega
    have hne2 : ¬ w1.heap.size = w1.heap.size + 1 := by omega
    have hi' : i = 0 ∨ i = 1 ∨ i = 2 ∨ i = 3 := by omega
    rcases hi' with rfl | rfl | rfl | rfl
    · go_wp2
      go_roundw
      case rel => exact ⟨1, by omega, by go_num, ⟨by go_simp, by go_simp, by go_simp⟩, ⟨by go_simp, by go_simp, by go_simp⟩, ⟨by go_simp, by go_simp, by go_simp⟩, fun j => by go_simp, bgo, by simpa using hsz⟩
      case measure => simp [intOf]
    · go_wp2
      go_roundw
      case rel => exact ⟨2, by omega, by go_num, ⟨by go_simp, by go_simp, by go_simp⟩, ⟨by go_simp, by go_simp, by go_simp⟩, ⟨by go_simp, by go_simp, by go_simp⟩, fun j => by go_simp, bgo, by simpa using hsz⟩
      case measure => simp [intOf]
    · go_wp2
      go_roundw
      case rel => exact ⟨3, by omega, by go_num, ⟨by go_simp, by go_simp, by go_simp⟩, ⟨by go_simp, by go_simp, by go_simp⟩, ⟨by go_simp, by go_simp, by go_simp⟩, fun j => by go_simp, bgo, by simpa using hsz⟩
      case measure => simp [intOf]
    · go_wp2
      exact bodyPost_ret (v := .tuple #[.int .i64 R, .int .i64 0]) (by
        simp only [results, Tryd.results60]
        go_simp
        rw [← hR]
        exact dl_bits (by omega) (by omega) (by omega) (by omega) (by omega) (by omega)) rfl ⟨rfl, hbw⟩
set_option maxHeartbeats 2000000 in
theorem enc_4 (n a b c g : Nat) (w : World) (hn : n < 1000) (ha : n / 100 = a) (hb : n / 10 % 10 = b) (hc : n % 10 = c) (hg : a / 8 * 4 + b / 8 * 2 + c / 8 = g) (R : Int) (u2 : Int) (hu2 : 0 ≤ u2 ∧ u2 < 8) (hv2 : ¬ 10 ≤ u2)
    (hR : ((((c : Int) / 2 % 4) : Int) * 256 + (a : Int) % 2 * 128 + ((b : Int) / 2 % 4) * 32 + (b : Int) % 2 * 16 + u2 * 2 + (c : Int) % 2) = R)
    (c21 : ∀ W, Calls Tryd.prog 81 #[.int .i64 (g : Int)] W fun r w' => r = .returned (.agg #[.int .i64 12, .int .i64 11, .int .i64 u2]) ∧ Below W.heap.size W w') :
    Calls Tryd.prog 60 #[.int .i64 (n : Int)] w fun r w' => r = .returned (.tuple #[.int .i64 R, .int .i64 0]) ∧ Below w.heap.size w w' := by
  have h0 : ¬ (n : Int) < 0 := by omega
  have h9 : ¬ 999 < (n : Int) := by omega
  have ea : (n : Int) / 100 = (a : Int) := by omega
  have eb : (n : Int) / 10 % 10 = (b : Int) := by omega
  have ec : (n : Int) % 10 = (c : Int) := by omega
  have eg : (a : Int) / 8 * 4 + (b : Int) / 8 * 2 + (c : Int) / 8 = (g : Int) := by omega
  have la : (a : Int) / 8 ≤ 1 := by omega
  have lb : (b : Int) / 8 ≤ 1 := by omega
  go_enter Tryd.func60, Tryd.ntmps60
  go_wp2_with (go_at_call 81; refine (c21 _).mono ?_; rintro r w1 ⟨rfl, hb1⟩; obtain ⟨hc1, hf1⟩ := bcell hb1; have hz1_0 : w.heap.size < w1.heap.size := lt_below hb1 ltg; have hl1_0 := Nat.le_of_lt hz1_0; have hA1 := bnext (w0 := w) bgo hb1; have hs1 := hA1.size; clear hb1)
  go_loopw [39] (fun t wr => ∃ i : Nat, i ≤ 3 ∧ t = .int .i64 i ∧ Thr wr w.heap.size a b c ∧ Thr wr w1.heap.size 12 11 u2 ∧ Thr wr (w1.heap.size + 1) (if 0 < i then ((c : Int) / 2 % 4) else 0) (if 1 < i then ((b : Int) / 2 % 4) else 0) (if 2 < i then u2 else 0) ∧ (∀ j, wr.frozen? ⟨w1.heap.size + 1, j, none⟩ = false) ∧ Below w.heap.size w wr ∧ w1.heap.size + 1 < wr.heap.size) (fun t _ => 3 - (intOf t).toNat)
  case atStart => exact ⟨0, by decide, rfl, ⟨by go_simp, by go_simp, by go_simp⟩, ⟨by go_simp, by go_simp, by go_simp⟩, ⟨by go_simp, by go_simp, by go_simp⟩, fun j => by go_simp, bgo, by simp⟩
  case round =>
    obtain ⟨i, hi, rfl, ⟨p0, p1, p2⟩, ⟨q0, q1, q2⟩, ⟨s0, s1, s2⟩, hfr, hbw, hsz⟩ := hrel
    have hl0 : w.heap.size < wr.heap.size := by omega
    have hl1 : w1.heap.size < wr.heap.size := by omega
    have hne1 : ¬ w.heap.size = w1.heap.size + 1 := by omega
    have hne2 : ¬ w1.heap.size = w1.heap.size + 1 := by omega
    have hi' : i = 0 ∨ i = 1 ∨ i = 2 ∨ i = 3 := by omega
    rcases hi' with rfl | rfl | rfl | rfl
    · go_wp2
      go_roundw
      case rel => exact ⟨1, by omega, by go_num, ⟨by go_simp, by go_simp, by go_simp⟩, ⟨by go_simp, by go_simp, by go_simp⟩, ⟨by go_simp, by go_simp, by go_simp⟩, fun j => by go_simp, bgo, by simpa using hsz⟩
      case measure => simp [intOf]
    · go_wp2
      go_roundw
      case rel => exact ⟨2, by omega, by go_num, ⟨by go_simp, by go_simp, by go_simp⟩, ⟨by go_simp, by go_simp, by go_simp⟩, ⟨by go_simp, by go_simp, by go_simp⟩, fun j => by go_simp, bgo, by simpa using hsz⟩
      case measure => simp [intOf]
    · go_wp2
      go_roundw
      case rel => exact ⟨3, by omega, by go_num, ⟨by go_simp, by go_simp, by go_simp⟩, ⟨by go_simp, by go_simp, by go_simp⟩, ⟨by go_simp, by go_simp, by go_simp⟩, fun j => by go_simp, bgo, by simpa using hsz⟩
      case measure => simp [intOf]
    · go_wp2
      exact bodyPost_ret (v := .tuple #[.int .i64 R, .int .i64 0]) (by
        simp only [results, Tryd.results60]
        go_simp
        rw [← hR]
        exact dl_bits (by omega) (by omega) (by omega) (by omega) (by omega) (by omega)) rfl ⟨rfl, hbw⟩
set_option maxHeartbeats 2000000 in
theorem enc_5 (n a b c g : Nat) (w : World) (hn : n < 1000) (ha : n / 100 = a) (hb : n / 10 % 10 = b) (hc : n % 10 = c) (hg : a / 8 * 4 + b / 8 * 2 + c / 8 = g) (R : Int) (u1 : Int) (hu1 : 0 ≤ u1 ∧ u1 < 4) (hv1 : ¬ 10 ≤ u1) (u2 : Int) (hu2 : 0 ≤ u2 ∧ u2 < 8) (hv2 : ¬ 10 ≤ u2)
    (hR : ((((b : Int) / 2 % 4) : Int) * 256 + (a : Int) % 2 * 128 + u1 * 32 + (b : Int) % 2 * 16 + u2 * 2 + (c : Int) % 2) = R)
    (c21 : ∀ W, Calls Tryd.prog 81 #[.int .i64 (g : Int)] W fun r w' => r = .returned (.agg #[.int .i64 11, .int .i64 u1, .int .i64 u2]) ∧ Below W.heap.size W w') :
    Calls Tryd.prog 60 #[.int .i64 (n : Int)] w fun r w' => r = .returned (.tuple #[.int .i64 R, .int .i64 0]) ∧ Below w.heap.size w w' := by
  have h0 : ¬ (n : Int) < 0 := by omega
  have h9 : ¬ 999 < (n : Int) := by omega
  have ea : (n : Int) / 100 = (a : Int) := by omega
  have eb : (n : Int) / 10 % 10 = (b : Int) := by omega
  have ec : (n : Int) % 10 = (c : Int) := by omega
  have eg : (a : Int) / 8 * 4 + (b : Int) / 8 * 2 + (c : Int) / 8 = (g : Int) := by omega
  have la : (a : Int) / 8 ≤ 1 := by omega
  have lb : (b : Int) / 8 ≤ 1 := by omega
  go_enter Tryd.func60, Tryd.ntmps60
  go_wp2_with (go_at_call 81; refine (c21 _).mono ?_; rintro r w1 ⟨rfl, hb1⟩; obtain ⟨hc1, hf1⟩ := bcell hb1; have hz1_0 : w.heap.size < w1.heap.size := lt_below hb1 ltg; have hl1_0 := Nat.le_of_lt hz1_0; have hA1 := bnext (w0 := w) bgo hb1; have hs1 := hA1.size; clear hb1)
  go_loopw [39] (fun t wr => ∃ i : Nat, i ≤ 3 ∧ t = .int .i64 i ∧ Thr wr w.heap.size a b c ∧ Thr wr w1.heap.size 11 u1 u2 ∧ Thr wr (w1.heap.size + 1) (if 0 < i then ((b : Int) / 2 % 4) else 0) (if 1 < i then u1 else 0) (if 2 < i then u2 else 0) ∧ (∀ j, wr.frozen? ⟨w1.heap.size + 1, j, none⟩ = false) ∧ Below w.heap.size w wr ∧ w1.heap.size + 1 < wr.heap.size) (fun t _ => 3 - (intOf t).toNat)
  case atStart => exact ⟨0, by decide, rfl, ⟨by go_simp, by go_simp, by go_simp⟩, ⟨by go_simp, by go_simp, by go_simp⟩, ⟨by go_simp, by go_simp, by go_simp⟩, fun j => by go_simp, bgo, by simp⟩
  case round =>
    obtain ⟨i, hi, rfl, ⟨p0, p1, p2⟩, ⟨q0, q1, q2⟩, ⟨s0, s1, s2⟩, hfr, hbw, hsz⟩ := hrel
    have hl0 : w.heap.size < wr.heap.size := by omega
    have hl1 : w1.heap.size < wr.heap.size := by omega
    have hne1 : ¬ w.heap.size = w1.heap.size + 1 := by omega
    have hne2 : ¬ w1.heap.size = w1.heap.size + 1 := by omega
    have hi' : i = 0 ∨ i = 1 ∨ i = 2 ∨ i = 3 := by omega
    rcases hi' with rfl | rfl | rfl | rfl
    · go_wp2
      go_roundw
      case rel => exact ⟨1, by omega, by go_num, ⟨by go_simp, by go_simp, by go_simp⟩, ⟨by go_simp, by go_simp, by go_simp⟩, ⟨by go_simp, by go_simp, by go_simp⟩, fun j => by go_simp, bgo, by simpa using hsz⟩
      case measure => simp [intOf]
    · go_wp2
      go_roundw
      case rel => exact ⟨2, by omega, by go_num, ⟨by go_simp, by go_simp, by go_simp⟩, ⟨by go_simp, by go_simp, by go_simp⟩, ⟨by go_simp, by go_simp, by go_simp⟩, fun j => by go_simp, bgo, by simpa using hsz⟩
      case measure => simp [intOf]
    · go_wp2
      go_roundw
      case rel => exact ⟨3, by omega, by go_num, ⟨by go_simp, by go_simp, by go_simp⟩, ⟨by go_simp, by go_simp, by go_simp⟩, ⟨by go_simp, by go_simp, by go_simp⟩, fun j => by go_simp, bgo, by simpa using hsz⟩
      case measure => simp [intOf]
    · go_wp2
      exact bodyPost_ret (v := .tuple #[.int .i64 R, .int .i64 0]) (by
        simp only [results, Tryd.results60]
        go_simp
        rw [← hR]
        exact dl_bits (by omega) (by omega) (by omega) (by omega) (by omega) (by omega)) rfl ⟨rfl, hbw⟩
set_option maxHeartbeats 2000000 in
theorem enc_6 (n a b c g : Nat) (w : World) (hn : n < 1000) (ha : n / 100 = a) (hb : n / 10 % 10 = b) (hc : n % 10 = c) (hg : a / 8 * 4 + b / 8 * 2 + c / 8 = g) (R : Int) (u1 : Int) (hu1 : 0 ≤ u1 ∧ u1 < 4) (hv1 : ¬ 10 ≤ u1) (u2 : Int) (hu2 : 0 ≤ u2 ∧ u2 < 8) (hv2 : ¬ 10 ≤ u2)
    (hR : ((((c : Int) / 2 % 4) : Int) * 256 + (a : Int) % 2 * 128 + u1 * 32 + (b : Int) % 2 * 16 + u2 * 2 + (c : Int) % 2) = R)
    (c21 : ∀ W, Calls Tryd.prog 81 #[.int .i64 (g : Int)] W fun r w' => r = .returned (.agg #[.int .i64 12, .int .i64 u1, .int .i64 u2]) ∧ Below W.heap.size W w') :
    Calls Tryd.prog 60 #[.int .i64 (n : Int)] w fun r w' => r = .returned (.tuple #[.int .i64 R, .int .i64 0]) ∧ Below w.heap.size w w' := by
  have h0 : ¬ (n : Int) < 0 := by omega
  have h9 : ¬ 999 < (n : Int) := by omega
  have ea : (n : Int) / 100 = (a : Int) := by omega
  have eb : (n : Int) / 10 % 10 = (b : Int) := by omega
  have ec : (n : Int) % 10 = (c : Int) := by omega
  have eg : (a : Int) / 8 * 4 + (b : Int) / 8 * 2 + (c : Int) / 8 = (g : Int) := by omega
  have la : (a : Int) / 8 ≤ 1 := by omega
  have lb : (b : Int) / 8 ≤ 1 := by omega
  go_enter Tryd.func60, Tryd.ntmps60
  go_wp2_with (go_at_call 81; refine (c21 _).mono ?_; rintro r w1 ⟨rfl, hb1⟩; obtain ⟨hc1, hf1⟩ := bcell hb1; have hz1_0 : w.heap.size < w1.heap.size := lt_below hb1 ltg; have hl1_0 := Nat.le_of_lt hz1_0; have hA1 := bnext (w0 := w) bgo hb1; have hs1 := hA1.size; clear hb1)
  go_loopw [39] (fun t wr => ∃ i : Nat, i ≤ 3 ∧ t = .int .i64 i ∧ Thr wr w.heap.size a b c ∧ Thr wr w1.heap.size 12 u1 u2 ∧ Thr wr (w1.heap.size + 1) (if 0 < i then ((c : Int) / 2 % 4) else 0) (if 1 < i then u1 else 0) (if 2 < i then u2 else 0) ∧ (∀ j, wr.frozen? ⟨w1.heap.size + 1, j, none⟩ = false) ∧ Below w.heap.size w wr ∧ w1.heap.size + 1 < wr.heap.size) (fun t _ => 3 - (intOf t).toNat)
  case atStart => exact ⟨0, by decide, rfl, ⟨by go_simp, by go_simp, by go_simp⟩, ⟨by go_simp, by go_simp, by go_simp⟩, ⟨by go_simp, by go_simp, by go_simp⟩, fun j => by go_simp, bgo, by simp⟩
  case round =>
    obtain ⟨i, hi, rfl, ⟨p0, p1, p2⟩, ⟨q0, q1, q2⟩, ⟨s0, s1, s2⟩, hfr, hbw, hsz⟩ := hrel
    have hl0 : w.heap.size < wr.heap.size := by omega
    have hl1 : w1.heap.size < wr.heap.size := by omega
    have hne1 : ¬ w.heap.size = w1.heap.size + 1 := by omega
    have hne2 : ¬ w1.heap.size = w1.heap.size + 1 := by omega
    have hi' : i = 0 ∨ i = 1 ∨ i = 2 ∨ i = 3 := by omega
    rcases hi' with rfl | rfl | rfl | rfl
    · go_wp2
      go_roundw
      case rel => exact ⟨1, by omega, by go_num, ⟨by go_simp, by go_simp, by go_simp⟩, ⟨by go_simp, by go_simp, by go_simp⟩, ⟨by go_simp, by go_simp, by go_simp⟩, fun j => by go_simp, bgo, by simpa using hsz⟩
      case measure => simp [intOf]
    · go_wp2
      go_roundw
      case rel => exact ⟨2, by omega, by go_num, ⟨by go_simp, by go_simp, by go_simp⟩, ⟨by go_simp, by go_simp, by go_simp⟩, ⟨by go_simp, by go_simp, by go_simp⟩, fun j => by go_simp, bgo, by simpa using hsz⟩
      case measure => simp [intOf]
    · go_wp2
      go_roundw
      case rel => exact ⟨3, by omega, by go_num, ⟨by go_simp, by go_simp, by go_simp⟩, ⟨by go_simp, by go_simp, by go_simp⟩, ⟨by go_simp, by go_simp, by go_simp⟩, fun j => by go_simp, bgo, by simpa using hsz⟩
      case measure => simp [intOf]
    · go_wp2
      exact bodyPost_ret (v := .tuple #[.int .i64 R, .int .i64 0]) (by
        simp only [results, Tryd.results60]
        go_simp
        rw [← hR]
        exact dl_bits (by omega) (by omega) (by omega) (by omega) (by omega) (by omega)) rfl ⟨rfl, hbw⟩
set_option maxHeartbeats 2000000 in
theorem enc_7 (n a b c g : Nat) (w : World) (hn : n < 1000) (ha : n / 100 = a) (hb : n / 10 % 10 = b) (hc : n % 10 = c) (hg : a / 8 * 4 + b / 8 * 2 + c / 8 = g) (R : Int) (u0 : Int) (hu0 : 0 ≤ u0 ∧ u0 < 4) (hv0 : ¬ 10 ≤ u0) (u1 : Int) (hu1 : 0 ≤ u1 ∧ u1 < 4) (hv1 : ¬ 10 ≤ u1) (u2 : Int) (hu2 : 0 ≤ u2 ∧ u2 < 8) (hv2 : ¬ 10 ≤ u2)
    (hR : ((u0 : Int) * 256 + (a : Int) % 2 * 128 + u1 * 32 + (b : Int) % 2 * 16 + u2 * 2 + (c : Int) % 2) = R)
    (c21 : ∀ W, Calls Tryd.prog 81 #[.int .i64 (g : Int)] W fun r w' => r = .returned (.agg #[.int .i64 u0, .int .i64 u1, .int .i64 u2]) ∧ Below W.heap.size W w') :
    Calls Tryd.prog 60 #[.int .i64 (n : Int)] w fun r w' => r = .returned (.tuple #[.int .i64 R, .int .i64 0]) ∧ Below w.heap.size w w' := by
  have h0 : ¬ (n : Int) < 0 := by omega
  have h9 : ¬ 999 < (n : Int) := by omega
  have ea : (n : Int) / 100 = (a : Int) := by omega
  have eb : (n : Int) / 10 % 10 = (b : Int) := by omega
  have ec : (n : Int) % 10 = (c : Int) := by omega
  have eg : (a : Int) / 8 * 4 + (b : Int) / 8 * 2 + (c : Int) / 8 = (g : Int) := by omega
  have la : (a : Int) / 8 ≤ 1 := by omega
  have lb : (b : Int) / 8 ≤ 1 := by omega
  go_enter Tryd.func60, Tryd.ntmps60
  go_wp2_with (go_at_call 81; refine (c21 _).mono ?_; rintro r w1 ⟨rfl, hb1⟩; obtain ⟨hc1, hf1⟩ := bcell hb1; have hz1_0 : w.heap.size < w1.heap.size := lt_below hb1 ltg; have hl1_0 := Nat.le_of_lt hz1_0; have hA1 := bnext (w0 := w) bgo hb1; have hs1 := hA1.size; clear hb1)
  go_loopw [39] (fun t wr => ∃ i : Nat, i ≤ 3 ∧ t = .int .i64 i ∧ Thr wr w.heap.size a b c ∧ Thr wr w1.heap.size u0 u1 u2 ∧ Thr wr (w1.heap.size + 1) (if 0 < i then u0 else 0) (if 1 < i then u1 else 0) (if 2 < i then u2 else 0) ∧ (∀ j, wr.frozen? ⟨w1.heap.size + 1, j, none⟩ = false) ∧ Below w.heap.size w wr ∧ w1.heap.size + 1 < wr.heap.size) (fun t _ => 3 - (intOf t).toNat)
  case atStart => exact ⟨0, by decide, rfl, ⟨by go_simp, by go_simp, by go_simp⟩, ⟨by go_simp, by go_simp, by go_simp⟩, ⟨by go_simp, by go_simp, by go_simp⟩, fun j => by go_simp, bgo, by simp⟩
  case round =>
    obtain ⟨i, hi, rfl, ⟨p0, p1, p2⟩, ⟨q0, q1, q2⟩, ⟨s0, s1, s2⟩, hfr, hbw, hsz⟩ := hrel
    have hl0 : w.heap.size < wr.heap.size := by omega
    have hl1 : w1.heap.size < wr.heap.size := by omega
    have hne1 : ¬ w.heap.size = w1.heap.size + 1 := by omega
    have hne2 : ¬ w1.heap.size = w1.heap.size + 1 := by omega
    have hi' : i = 0 ∨ i = 1 ∨ i = 2 ∨ i = 3 := by omega
    rcases hi' with rfl | rfl | rfl | rfl
    · go_wp2
      go_roundw
      case rel => exact ⟨1, by omega, by go_num, ⟨by go_simp, by go_simp, by go_simp⟩, ⟨by go_simp, by go_simp, by go_simp⟩, ⟨by go_simp, by go_simp, by go_simp⟩, fun j => by go_simp, bgo, by simpa using hsz⟩
      case measure => simp [intOf]
    · go_wp2
      go_roundw
      case rel => exact ⟨2, by omega, by go_num, ⟨by go_simp, by go_simp, by go_simp⟩, ⟨by go_simp, by go_simp, by go_simp⟩, ⟨by go_simp, by go_simp, by go_simp⟩, fun j => by go_simp, bgo, by simpa using hsz⟩
      case measure => simp [intOf]
    · go_wp2
      go_roundw
      case rel => exact ⟨3, by omega, by go_num, ⟨by go_simp, by go_simp, by go_simp⟩, ⟨by go_simp, by go_simp, by go_simp⟩, ⟨by go_simp, by go_simp, by go_simp⟩, fun j => by go_simp, bgo, by simpa using hsz⟩
      case measure => simp [intOf]
    · go_wp2
      exact bodyPost_ret (v := .tuple #[.int .i64 R, .int .i64 0]) (by
        simp only [results, Tryd.results60]
        go_simp
        rw [← hR]
        exact dl_bits (by omega) (by omega) (by omega) (by omega) (by omega) (by omega)) rfl ⟨rfl, hbw⟩
theorem enc_v (n : Nat) (hn : n < 1000) (w : World) : Calls Tryd.prog 60 #[.int .i64 (n : Int)] w fun r w' => r = .returned (.tuple #[.int .i64 (dlE n : Int), .int .i64 0]) ∧ Below w.heap.size w w' := by
  have hg := dlG_lt hn
  have c21 := fun W => row_v (dlG n) hg W
  have hgg : n / 100 / 8 * 4 + n / 10 % 10 / 8 * 2 + n % 10 / 8 = dlG n := rfl
  have h : dlG n = 0 ∨ dlG n = 1 ∨ dlG n = 2 ∨ dlG n = 3 ∨ dlG n = 4 ∨ dlG n = 5 ∨ dlG n = 6 ∨ dlG n = 7 := by omega
  rcases h with h | h | h | h | h | h | h | h
  · have e : dlE n = n / 100 / 2 % 4 * 256 + n / 100 % 2 * 128 + n / 10 % 10 / 2 % 4 * 32 + n / 10 % 10 % 2 * 16 + n % 10 / 2 % 4 * 2 + n % 10 % 2 := by
      unfold dlE
      rw [h]
      rfl
    refine enc_0 n _ _ _ (dlG n) w hn rfl rfl rfl hgg _ (by rw [e]; omega) (fun W => ?_)
    have := c21 W
    rw [h] at this ⊢
    exact this
  · have e : dlE n = n / 100 / 2 % 4 * 256 + n / 100 % 2 * 128 + n / 10 % 10 / 2 % 4 * 32 + n / 10 % 10 % 2 * 16 + 4 * 2 + n % 10 % 2 := by
      unfold dlE
      rw [h]
      rfl
    refine enc_1 n _ _ _ (dlG n) w hn rfl rfl rfl hgg _ 4 (by decide) (by decide) (by rw [e]; omega) (fun W => ?_)
    have := c21 W
    rw [h] at this ⊢
    exact this
  · have e : dlE n = n / 100 / 2 % 4 * 256 + n / 100 % 2 * 128 + n % 10 / 2 % 4 * 32 + n / 10 % 10 % 2 * 16 + 5 * 2 + n % 10 % 2 := by
      unfold dlE
      rw [h]
      rfl
    refine enc_2 n _ _ _ (dlG n) w hn rfl rfl rfl hgg _ 5 (by decide) (by decide) (by rw [e]; omega) (fun W => ?_)
    have := c21 W
    rw [h] at this ⊢
    exact this
  · have e : dlE n = n / 100 / 2 % 4 * 256 + n / 100 % 2 * 128 + 2 * 32 + n / 10 % 10 % 2 * 16 + 7 * 2 + n % 10 % 2 := by
      unfold dlE
      rw [h]
      rfl
    refine enc_3 n _ _ _ (dlG n) w hn rfl rfl rfl hgg _ 2 (by decide) (by decide) 7 (by decide) (by decide) (by rw [e]; omega) (fun W => ?_)
    have := c21 W
    rw [h] at this ⊢
    exact this
  · have e : dlE n = n % 10 / 2 % 4 * 256 + n / 100 % 2 * 128 + n / 10 % 10 / 2 % 4 * 32 + n / 10 % 10 % 2 * 16 + 6 * 2 + n % 10 % 2 := by
      unfold dlE
      rw [h]
      rfl
    refine enc_4 n _ _ _ (dlG n) w hn rfl rfl rfl hgg _ 6 (by decide) (by decide) (by rw [e]; omega) (fun W => ?_)
    have := c21 W
    rw [h] at this ⊢
    exact this
  · have e : dlE n = n / 10 % 10 / 2 % 4 * 256 + n / 100 % 2 * 128 + 1 * 32 + n / 10 % 10 % 2 * 16 + 7 * 2 + n % 10 % 2 := by
      unfold dlE
      rw [h]
      rfl
    refine enc_5 n _ _ _ (dlG n) w hn rfl rfl rfl hgg _ 1 (by decide) (by decide) 7 (by decide) (by decide) (by rw [e]; omega) (fun W => ?_)
    have := c21 W
    rw [h] at this ⊢
    exact this
  · have e : dlE n = n % 10 / 2 % 4 * 256 + n / 100 % 2 * 128 + 0 * 32 + n / 10 % 10 % 2 * 16 + 7 * 2 + n % 10 % 2 := by
      unfold dlE
      rw [h]
      rfl
    refine enc_6 n _ _ _ (dlG n) w hn rfl rfl rfl hgg _ 0 (by decide) (by decide) 7 (by decide) (by decide) (by rw [e]; omega) (fun W => ?_)
    have := c21 W
    rw [h] at this ⊢
    exact this
  · have e : dlE n = 0 * 256 + n / 100 % 2 * 128 + 3 * 32 + n / 10 % 10 % 2 * 16 + 7 * 2 + n % 10 % 2 := by
      unfold dlE
      rw [h]
      rfl
    refine enc_7 n _ _ _ (dlG n) w hn rfl rfl rfl hgg _ 0 (by decide) (by decide) 3 (by decide) (by decide) 7 (by decide) (by decide) (by rw [e]; omega) (fun W => ?_)
    have := c21 W
    rw [h] at this ⊢
    exact this
end
end Go.Proofs.YtehgnckgmdkfmaaDoor

set_option maxRecDepth 100000
namespace Go.Proofs.YtehgnckgmdkfmaaDoor
open Go.ChangeShapes Go.WideShapes Go.ChangeAt Go.RowKit

section
variable {H : Type} {enc : TypeId × Value → H} {W : World} {r : Reach} {base b : Nat} {sp : Nat → Bool} {held : Bool} {t : TypeId} {n : Nat} {v : Value} {d : DataW H} {p : List MemPlace}
theorem open_bits (hok : Value.okWide Tryd.prog W r base 24 v) (h : DataW.Trod enc Tryd.prog W b sp held 24 v d p) : ∃ A, A < 2 ^ 256 ∧ v = A4 A ∧ p = [] := by
  obtain ⟨x, hx, rfl, hp⟩ := open_words Tryd.underlying24 (by kernel_rfl) hok h
  obtain ⟨A, hA, he, _⟩ := words_A4 hx
  exact ⟨A, hA, he, hp⟩
theorem bits_stay {W' : World} {sp' : Nat → Bool} (h : DataW.Trod enc Tryd.prog W 0 (fun _ => true) true 24 v d []) : DataW.Trod enc Tryd.prog W' 0 sp' true 24 v d [] :=
  WideElems.Trod_stays Tryd.laidOut (by kernel_rfl) (of_decide_eq_true (by kernel_rfl)) h (by simp) (by simp)
end
end Go.Proofs.YtehgnckgmdkfmaaDoor
