/-
  Texts that the proof leans on.
-/
import Derived.Test.YtehgnckgmdkfmaaGreatDoorJ11
import Derived.Test.YtehgnckgmdkfmaaGreatDoorJ3
import Derived.Test.YtehgnckgmdkfmaaGreatDoorJ13
import Derived.Test.YtehgnckgmdkfmaaGreatDoorJ6
import Derived.DeepKeys
import Derived.Deep.RegionWith
import Derived.Test.YtehgnckgmdkfmaaGreatDoorJ4
set_option linter.unusedVariables false
set_option linter.unusedSectionVars false
set_option linter.unusedSimpArgs false
set_option maxRecDepth 20000
namespace Go.Proofs.YtehgnckgmdkfmaaGreatDoor
open Go.RowKit
theorem lt_below {n g : Nat} {W W' : World} (hb : Below n W W') (h : g < W.heap.size) : g < W'.heap.size := Nat.lt_of_lt_of_le h hb.size
theorem bnext {w0 W W' : World} (h : Below w0.heap.size w0 W) (hb : Below W.heap.size W W') : Below w0.heap.size w0 W' := h.trans (hb.mono h.size)
theorem cell_set_map (W : World) (b i : Nat) (v : Value) : (W.setCell ⟨b, i, none⟩ v).cell? ⟨b, i, none⟩ = (W.cell? ⟨b, i, none⟩).map fun _ => v := by
  unfold World.cell? World.setCell
  simp only [Array.getElem?_modify, if_true]
  cases h : W.heap[b]? with
  | none => simp
  | some o =>
    cases o with
    | cells c e fr =>
      simp only [Option.map_some, Option.isSome_none, Bool.false_eq_true, if_false]
      by_cases hi : i < c.size
      · simp [hi]
      · simp [hi]
    | _ => simp
/-- a datum: class, sign, signal, exponent, coefficient -/
structure Dat where
  c : Int
  s : Bool
  g : Bool
  x : Int
  k : Nat
abbrev DV (c : Int) (s g : Bool) (x : Int) (k : Nat) : Value := .agg #[.int .i64 c, .bool s, .bool g, .int .i64 x, .int .u64 (W4 k 0), .int .u64 (W4 k 1), .int .u64 (W4 k 2), .int .u64 (W4 k 3)]
abbrev Dat.v (d : Dat) : Value := DV d.c d.s d.g d.x d.k
theorem W4_zero (i : Nat) : W4 0 i = 0 := by unfold W4; simp
/-- what the pattern with that fraction means, the exponent all ones -/
def spc (f : Nat) (s : Bool) (F : Nat) : Dat := if F = 0 then ⟨2, s, false, 0, 0⟩ else if F < 2 ^ (f - 1) then ⟨3, s, true, 0, F⟩ else ⟨3, s, false, 0, F - 2 ^ (f - 1)⟩
/-- a decimal format: T's bits, G's bits behind the five, declets, the least exponent, dense -/
structure DF where
  t : Nat
  w : Nat
  j : Nat
  l : Int
  dn : Bool
def DF.ok (f : DF) : Prop := (f.t = 20 ∧ f.w = 6 ∧ f.j = 2 ∧ f.l = -101) ∨ (f.t = 50 ∧ f.w = 8 ∧ f.j = 5 ∧ f.l = -398) ∨ (f.t = 110 ∧ f.w = 12 ∧ f.j = 11 ∧ f.l = -6176)
/-- the fields of a pattern -/
def vR (f : DF) (B : Nat) : Nat := B % 2 ^ f.t
def vG (f : DF) (B : Nat) : Nat := B / 2 ^ f.t % 2 ^ (f.w + 5)
def vS (f : DF) (B : Nat) : Bool := decide (B / 2 ^ (f.t + (f.w + 5)) % 2 = 1)
/-- the five bits -/
def vV (w G : Nat) : Nat := G / 2 ^ w
/-- the exponent's field, the first digit or bits -/
def vF (dn : Bool) (w G : Nat) : Nat :=
  if dn then (if vV w G < 24 then vV w G / 8 * 2 ^ w + G % 2 ^ w else vV w G / 2 % 4 * 2 ^ w + G % 2 ^ w)
  else (if vV w G < 24 then G / 8 else G / 2 % 2 ^ (w + 2))
def vL (dn : Bool) (w G : Nat) : Nat :=
  if dn then (if vV w G < 24 then vV w G % 8 else 8 + vV w G % 2) else (if vV w G < 24 then G % 8 else 8 + G % 2)
/-- the tail's number -/
def vT (f : DF) (R : Nat) : Nat := if f.dn then dlU f.j R else R
/-- what the first digit counts -/
def vQ (f : DF) : Nat := if f.dn then 10 ^ (3 * f.j) else 2 ^ f.t
/-- what fields mean -/
def vD (f : DF) (s : Bool) (G R : Nat) : Dat :=
  if vV f.w G = 30 then ⟨2, s, false, 0, 0⟩
  else if vV f.w G = 31 then ⟨3, s, decide (G / 2 ^ (f.w - 1) % 2 = 1), 0, if vT f R < 10 ^ (3 * f.j) then vT f R else 0⟩
  else ⟨1, s, false, (vF f.dn f.w G : Int) + f.l, if vL f.dn f.w G * vQ f + vT f R < 10 ^ (3 * f.j + 1) then vL f.dn f.w G * vQ f + vT f R else 0⟩
/-- what a pattern means -/
def vM (f : DF) (B : Nat) : Dat := vD f (vS f B) (vG f B) (vR f B)
/-- a datum is the format's -/
def vI (f : DF) (d : Dat) : Prop :=
  (d.c = 1 ∧ d.g = false ∧ d.k < 10 ^ (3 * f.j + 1) ∧ f.l ≤ d.x ∧ d.x ≤ f.l + 3 * 2 ^ f.w - 1) ∨ (d.c = 2 ∧ d.g = false ∧ d.k = 0 ∧ d.x = 0) ∨ (d.c = 3 ∧ d.x = 0 ∧ d.k < 10 ^ (3 * f.j))
/-- G of an exponent's field and a first digit -/
def vN (dn : Bool) (w E a : Nat) : Nat :=
  if dn then (if 8 ≤ a then 24 + E / 2 ^ w * 2 + a % 2 else E / 2 ^ w * 8 + a) * 2 ^ w + E % 2 ^ w
  else (if 8 ≤ a then 3 * 2 ^ (w + 3) + E * 2 + a % 2 else E * 8 + a)
/-- a datum's fields -/
def vPG (f : DF) (d : Dat) : Nat :=
  if d.c = 2 then 30 * 2 ^ f.w else if d.c = 3 then 31 * 2 ^ f.w + (if d.g then 2 ^ (f.w - 1) else 0)
  else vN f.dn f.w (d.x - f.l).toNat (d.k / vQ f)
def vPR (f : DF) (d : Dat) : Nat :=
  if d.c = 2 then 0 else if d.c = 3 then (if f.dn then dlP f.j d.k else d.k)
  else if f.dn then dlP f.j (d.k % 10 ^ (3 * f.j)) else d.k % 2 ^ f.t
/-- a datum's pattern -/
def vP (f : DF) (d : Dat) : Nat := (if d.s then 2 ^ (f.t + (f.w + 5)) else 0) + vPG f d * 2 ^ f.t + vPR f d

theorem ten3 (j : Nat) : (10 : Nat) ^ (3 * j) = 1000 ^ j := by rw [Nat.pow_mul]
theorem DF.ok.t10 {f : DF} (h : f.ok) : f.t = 10 * f.j := by
  rcases h with ⟨h1, h2, h3, h4⟩ | ⟨h1, h2, h3, h4⟩ | ⟨h1, h2, h3, h4⟩ <;> omega
theorem DF.ok.pt {f : DF} (h : f.ok) : 2 ^ f.t = 1024 ^ f.j := by rw [h.t10, Nat.pow_mul]
/-- the fields of a pattern that is laid of them -/
theorem v_parts (f : DF) (s : Bool) {G R : Nat} (hG : G < 2 ^ (f.w + 5)) (hR : R < 2 ^ f.t) :
    vR f ((if s then 2 ^ (f.t + (f.w + 5)) else 0) + G * 2 ^ f.t + R) = R ∧ vG f ((if s then 2 ^ (f.t + (f.w + 5)) else 0) + G * 2 ^ f.t + R) = G ∧ vS f ((if s then 2 ^ (f.t + (f.w + 5)) else 0) + G * 2 ^ f.t + R) = s := by
  have e : (if s then 2 ^ (f.t + (f.w + 5)) else 0) + G * 2 ^ f.t + R = ((if s then 1 else 0) * 2 ^ (f.w + 5) + G) * 2 ^ f.t + R := by
    cases s
    · simp
    · simp only [if_true, Nat.one_mul, Nat.add_mul]
      rw [← Nat.pow_add, Nat.add_comm (f.w + 5) f.t]
  rw [e]
  have hT : 0 < 2 ^ f.t := Nat.two_pow_pos _
  have hH : 0 < 2 ^ (f.w + 5) := Nat.two_pow_pos _
  have h1 : (((if s then 1 else 0) * 2 ^ (f.w + 5) + G) * 2 ^ f.t + R) % 2 ^ f.t = R := by rw [Nat.mul_comm, Nat.mul_add_mod, Nat.mod_eq_of_lt hR]
  have h2 : (((if s then 1 else 0) * 2 ^ (f.w + 5) + G) * 2 ^ f.t + R) / 2 ^ f.t = (if s then 1 else 0) * 2 ^ (f.w + 5) + G := by rw [Nat.mul_comm, Nat.mul_add_div hT, Nat.div_eq_of_lt hR, Nat.add_zero]
  have h3 : ((if s then 1 else 0) * 2 ^ (f.w + 5) + G) % 2 ^ (f.w + 5) = G := by rw [Nat.mul_comm, Nat.mul_add_mod, Nat.mod_eq_of_lt hG]
  have h4 : ((if s then 1 else 0) * 2 ^ (f.w + 5) + G) / 2 ^ (f.w + 5) = (if s then 1 else 0) := by rw [Nat.mul_comm, Nat.mul_add_div hH, Nat.div_eq_of_lt hG, Nat.add_zero]
  refine ⟨h1, ?_, ?_⟩
  · unfold vG; rw [h2, h3]
  · unfold vS; rw [Nat.pow_add 2 f.t (f.w + 5), ← Nat.div_div_eq_div_mul, h2, h4]; cases s <;> rfl
theorem vG_lt (f : DF) (B : Nat) : vG f B < 2 ^ (f.w + 5) := Nat.mod_lt _ (Nat.two_pow_pos _)
theorem vR_lt (f : DF) (B : Nat) : vR f B < 2 ^ f.t := Nat.mod_lt _ (Nat.two_pow_pos _)
theorem vT_lt {f : DF} (h : f.ok) (hd : f.dn = true) (R : Nat) : vT f R < 10 ^ (3 * f.j) := by
  unfold vT
  rw [hd, if_pos rfl, ten3]
  exact dlU_lt _ _
/-- what a pattern means is the format's -/
theorem vD_is {f : DF} (h : f.ok) (s : Bool) {G R : Nat} (hG : G < 2 ^ (f.w + 5)) (hR : R < 2 ^ f.t) : vI f (vD f s G R) := by
  have hp : 0 < (10 : Nat) ^ (3 * f.j) := Nat.pow_pos (by decide)
  have hp' : 0 < (10 : Nat) ^ (3 * f.j + 1) := Nat.pow_pos (by decide)
  unfold vD
  by_cases h30 : vV f.w G = 30
  · rw [if_pos h30]; exact Or.inr (Or.inl ⟨rfl, rfl, rfl, rfl⟩)
  · rw [if_neg h30]
    by_cases h31 : vV f.w G = 31
    · rw [if_pos h31]
      refine Or.inr (Or.inr ⟨rfl, rfl, ?_⟩)
      show (if vT f R < 10 ^ (3 * f.j) then vT f R else 0) < 10 ^ (3 * f.j)
      split <;> omega
    · rw [if_neg h31]
      refine Or.inl ⟨rfl, rfl, ?_, ?_, ?_⟩
      · show (if vL f.dn f.w G * vQ f + vT f R < 10 ^ (3 * f.j + 1) then vL f.dn f.w G * vQ f + vT f R else 0) < 10 ^ (3 * f.j + 1)
        split <;> omega
      · show f.l ≤ (vF f.dn f.w G : Int) + f.l
        omega
      · show (vF f.dn f.w G : Int) + f.l ≤ f.l + 3 * 2 ^ f.w - 1
        have : vF f.dn f.w G < 3 * 2 ^ f.w := by
          unfold vF
          unfold vV at *
          rcases h with ⟨h1, h2, h3, h4⟩ | ⟨h1, h2, h3, h4⟩ | ⟨h1, h2, h3, h4⟩ <;> rw [h2] at hG h30 h31 ⊢ <;> cases f.dn <;> simp only [Bool.false_eq_true, if_false, if_true] <;> simp only [Nat.reducePow, Nat.reduceAdd] at * <;> split <;> omega
        have e : ((3 * 2 ^ f.w : Nat) : Int) = 3 * 2 ^ f.w := by simp
        omega
theorem vM_is {f : DF} (h : f.ok) (B : Nat) : vI f (vM f B) := vD_is h _ (vG_lt f B) (vR_lt f B)
theorem vPG_lt {f : DF} (h : f.ok) {d : Dat} (hd : vI f d) : vPG f d < 2 ^ (f.w + 5) := by
  have hq : d.c = 1 → d.k / vQ f ≤ 9 := fun h1 => by
    rcases hd with ⟨_, _, hk, _, _⟩ | ⟨h2, _⟩ | ⟨h2, _⟩
    · unfold vQ
      rcases h with ⟨h1, h2, h3, h4⟩ | ⟨h1, h2, h3, h4⟩ | ⟨h1, h2, h3, h4⟩ <;> rw [h3] at hk ⊢ <;> rw [h1] <;> cases f.dn <;> simp only [Bool.false_eq_true, if_false, if_true] <;> simp only [Nat.reducePow, Nat.reduceAdd, Nat.reduceMul] at * <;> omega
    · omega
    · omega
  unfold vPG
  rcases hd with ⟨c1, g1, hk, hx, hx'⟩ | ⟨c1, g1, hk, hx⟩ | ⟨c1, hx, hk⟩
  · have h9 := hq c1
    rw [if_neg (by omega), if_neg (by omega)]
    generalize d.k / vQ f = a at *
    have hE : (d.x - f.l).toNat < 3 * 2 ^ f.w := by
      have e : ((3 * 2 ^ f.w : Nat) : Int) = 3 * 2 ^ f.w := by simp
      omega
    generalize (d.x - f.l).toNat = E at *
    unfold vN
    rcases h with ⟨h1, h2, h3, h4⟩ | ⟨h1, h2, h3, h4⟩ | ⟨h1, h2, h3, h4⟩ <;> rw [h2] at hE ⊢ <;> cases f.dn <;> simp only [Bool.false_eq_true, if_false, if_true] <;> simp only [Nat.reducePow, Nat.reduceAdd, Nat.reduceMul] at * <;> split <;> omega
  · rw [if_pos c1]
    rcases h with ⟨h1, h2, h3, h4⟩ | ⟨h1, h2, h3, h4⟩ | ⟨h1, h2, h3, h4⟩ <;> rw [h2] <;> decide
  · rw [if_neg (by omega), if_pos c1]
    rcases h with ⟨h1, h2, h3, h4⟩ | ⟨h1, h2, h3, h4⟩ | ⟨h1, h2, h3, h4⟩ <;> rw [h2] <;> cases d.g <;> decide
theorem vPR_lt {f : DF} (h : f.ok) {d : Dat} (hd : vI f d) : vPR f d < 2 ^ f.t := by
  unfold vPR
  rcases hd with ⟨c1, g1, hk, hx, hx'⟩ | ⟨c1, g1, hk, hx⟩ | ⟨c1, hx, hk⟩
  · rw [if_neg (by omega), if_neg (by omega)]
    split
    · rw [h.pt]; exact dlP_lt _ _
    · exact Nat.mod_lt _ (Nat.two_pow_pos _)
  · rw [if_pos c1]; exact Nat.two_pow_pos _
  · rw [if_neg (by omega), if_pos c1]
    split
    · rw [h.pt]; exact dlP_lt _ _
    · refine Nat.lt_of_lt_of_le hk ?_
      rcases h with ⟨h1, h2, h3, h4⟩ | ⟨h1, h2, h3, h4⟩ | ⟨h1, h2, h3, h4⟩ <;> rw [h1, h3] <;> decide
theorem vP_lt {f : DF} (h : f.ok) {d : Dat} (hd : vI f d) : vP f d < 2 ^ (f.t + (f.w + 6)) := by
  have h1 := vPG_lt h hd
  have h2 := vPR_lt h hd
  unfold vP
  have e5 : 2 ^ (f.t + (f.w + 5)) = 2 ^ (f.w + 5) * 2 ^ f.t := by rw [← Nat.pow_add, Nat.add_comm]
  have e6 : 2 ^ (f.t + (f.w + 6)) = 2 * (2 ^ (f.w + 5) * 2 ^ f.t) := by rw [← Nat.pow_add, ← Nat.pow_succ']; congr 1; omega
  have h3 : (if d.s then 2 ^ (f.t + (f.w + 5)) else 0) ≤ 2 ^ (f.w + 5) * 2 ^ f.t := by split <;> omega
  have h4 : (vPG f d + 1) * 2 ^ f.t ≤ 2 ^ (f.w + 5) * 2 ^ f.t := Nat.mul_le_mul_right _ h1
  rw [Nat.add_mul, Nat.one_mul] at h4
  rw [e6]
  omega
theorem vP_256 {f : DF} (h : f.ok) {d : Dat} (hd : vI f d) : vP f d < 2 ^ 256 := by
  refine Nat.lt_of_lt_of_le (vP_lt h hd) (Nat.pow_le_pow_right (by decide) ?_)
  rcases h with ⟨h1, h2, h3, h4⟩ | ⟨h1, h2, h3, h4⟩ | ⟨h1, h2, h3, h4⟩ <;> omega
theorem vM_256 {f : DF} (h : f.ok) (B : Nat) : (vM f B).k < 2 ^ 256 := by
  have hi := vM_is h B
  have e : (10 : Nat) ^ (3 * f.j + 1) ≤ 10 ^ 34 := Nat.pow_le_pow_right (by decide) (by rcases h with ⟨h1, h2, h3, h4⟩ | ⟨h1, h2, h3, h4⟩ | ⟨h1, h2, h3, h4⟩ <;> omega)
  have e' : (10 : Nat) ^ (3 * f.j) ≤ 10 ^ 34 := Nat.pow_le_pow_right (by decide) (by rcases h with ⟨h1, h2, h3, h4⟩ | ⟨h1, h2, h3, h4⟩ | ⟨h1, h2, h3, h4⟩ <;> omega)
  have e2 : (10 : Nat) ^ 34 < 2 ^ 256 := by decide
  rcases hi with ⟨_, _, hk, _⟩ | ⟨_, _, hk, _⟩ | ⟨_, _, hk⟩ <;> omega
/-- the first digit and the exponent's field of what was laid -/
theorem vN_back {f : DF} (h : f.ok) {E a : Nat} (hE : E < 3 * 2 ^ f.w) (ha : a ≤ 9) : vF f.dn f.w (vN f.dn f.w E a) = E ∧ vL f.dn f.w (vN f.dn f.w E a) = a ∧ vV f.w (vN f.dn f.w E a) ≠ 30 ∧ vV f.w (vN f.dn f.w E a) ≠ 31 := by
  unfold vF vL vN vV
  rcases h with ⟨h1, h2, h3, h4⟩ | ⟨h1, h2, h3, h4⟩ | ⟨h1, h2, h3, h4⟩ <;> rw [h2] at hE ⊢ <;> cases f.dn <;> simp only [Bool.false_eq_true, if_false, if_true] <;> simp only [Nat.reducePow, Nat.reduceAdd, Nat.reduceMul] at * <;> by_cases h8 : 8 ≤ a
  all_goals simp only [h8, if_true, if_false]
  all_goals refine ⟨?_, ?_, ?_, ?_⟩
  all_goals (try split) <;> omega
/-- what was packed means what it was -/
theorem vM_vP {f : DF} (h : f.ok) {d : Dat} (hd : vI f d) : vM f (vP f d) = d := by
  obtain ⟨e1, e2, e3⟩ := v_parts f d.s (vPG_lt h hd) (vPR_lt h hd)
  unfold vM
  unfold vP
  rw [e1, e2, e3]
  obtain ⟨c, s, g, x, k⟩ := d
  unfold vD vPG vPR
  rcases hd with ⟨c1, g1, hk, hx, hx'⟩ | ⟨c1, g1, hk, hx⟩ | ⟨c1, hx, hk⟩
  · simp only at c1 g1 hk hx hx'
    subst c1 g1
    simp only [show ¬ (1 : Int) = 2 by decide, show ¬ (1 : Int) = 3 by decide, if_false]
    have hE : (x - f.l).toNat < 3 * 2 ^ f.w := by
      have e : ((3 * 2 ^ f.w : Nat) : Int) = 3 * 2 ^ f.w := by simp
      omega
    have ha : k / vQ f ≤ 9 := by
      unfold vQ
      rcases h with ⟨h1, h2, h3, h4⟩ | ⟨h1, h2, h3, h4⟩ | ⟨h1, h2, h3, h4⟩ <;> rw [h3] at hk ⊢ <;> rw [h1] <;> cases f.dn <;> simp only [Bool.false_eq_true, if_false, if_true] <;> simp only [Nat.reducePow, Nat.reduceAdd, Nat.reduceMul] at * <;> omega
    obtain ⟨b1, b2, b3, b4⟩ := vN_back h hE ha
    rw [if_neg b3, if_neg b4, b1, b2]
    have ht : k / vQ f * vQ f + vT f (if f.dn then dlP f.j (k % 10 ^ (3 * f.j)) else k % 2 ^ f.t) = k := by
      unfold vT vQ
      cases f.dn
      · simp only [Bool.false_eq_true, if_false]
        rw [Nat.mul_comm]; exact Nat.div_add_mod k _
      · simp only [if_true]
        rw [dl_there _ _ (by rw [← ten3]; exact Nat.mod_lt _ (Nat.pow_pos (by decide))), Nat.mul_comm]
        exact Nat.div_add_mod k _
    rw [ht, if_pos hk]
    congr 1
    omega
  · simp only at c1 g1 hk hx
    subst c1 g1 hk hx
    simp only [if_true]
    have : vV f.w (30 * 2 ^ f.w) = 30 := by unfold vV; exact Nat.mul_div_cancel _ (Nat.two_pow_pos _)
    rw [if_pos this]
  · simp only at c1 hx hk
    subst c1 hx
    simp only [show ¬ (3 : Int) = 2 by decide, if_false, if_true]
    have hw : 2 ^ f.w = 2 * 2 ^ (f.w - 1) := by rw [← Nat.pow_succ']; congr 1; rcases h with ⟨h1, h2, h3, h4⟩ | ⟨h1, h2, h3, h4⟩ | ⟨h1, h2, h3, h4⟩ <;> omega
    have hp := Nat.two_pow_pos (f.w - 1)
    have h31 : vV f.w (31 * 2 ^ f.w + if g then 2 ^ (f.w - 1) else 0) = 31 := by
      unfold vV
      rw [Nat.mul_comm, Nat.mul_add_div (Nat.two_pow_pos _), Nat.div_eq_of_lt (by split <;> omega)]
    have hg : decide ((31 * 2 ^ f.w + if g then 2 ^ (f.w - 1) else 0) / 2 ^ (f.w - 1) % 2 = 1) = g := by
      rw [hw, show 31 * (2 * 2 ^ (f.w - 1)) = 2 ^ (f.w - 1) * 62 by omega, Nat.mul_add_div hp]
      cases g
      · simp
      · simp only [if_true]; rw [Nat.div_self hp]; decide
    rw [if_neg (by rw [h31]; decide), if_pos h31, hg]
    have ht : vT f (if f.dn then dlP f.j k else k) = k := by
      unfold vT
      cases f.dn
      · simp
      · simp only [if_true]
        exact dl_there _ _ (by rw [← ten3]; exact hk)
    rw [ht, if_pos hk]
/-- a binary format -/
def binN (n : Int) : Prop := 1 ≤ n ∧ n ≤ 6
instance (n : Int) : Decidable (binN n) := inferInstanceAs (Decidable (_ ∧ _))
def fN (n : Int) : Nat := (precN n - 1).toNat
def eN (n : Int) : Nat := (expN n).toNat
/-- a binary format's pattern -/
def goodN (n : Int) (B : Nat) : Prop := binN n ∧ B < 2 ^ (fN n + eN n + 1)
instance (n : Int) (B : Nat) : Decidable (goodN n B) := inferInstanceAs (Decidable (_ ∧ _))
theorem A4_get (B : Nat) : ∀ i, i < 4 → (#[Value.int .u64 (W4 B 0), .int .u64 (W4 B 1), .int .u64 (W4 B 2), .int .u64 (W4 B 3)] : Array Value)[i]? = some (.int .u64 (W4 B i)) := fun i hi => by
  have : i = 0 ∨ i = 1 ∨ i = 2 ∨ i = 3 := by omega
  rcases this with rfl | rfl | rfl | rfl <;> rfl
theorem fits4 (n : Int) (B : Nat) (hB : B < 2 ^ 256) (w : World) (hT : Tab w) :
    Calls Tryz.prog 42 #[.int .i64 n, A4 B] w fun x w' => x = .returned (.bool (decide (okN n ∧ B < 2 ^ (widthN n).toNat))) ∧ Below w.heap.size w w' := by
  refine (fits_any n (W4 B) (W4_words B) _ (A4_get B) rfl w hT).mono ?_
  rintro x w' ⟨rfl, hb⟩
  refine ⟨?_, hb⟩
  have hwd := (fields_bounds n).2.1
  have e : (fitsP n (W4 B)) ↔ (okN n ∧ B < 2 ^ (widthN n).toNat) := by
    unfold fitsP
    rw [lenL_low]
    have := len4_le (k := (widthN n).toNat) hB
    rw [show (((widthN n).toNat : Nat) : Int) = widthN n by omega] at this
    rw [this]
  rw [decide_eq_decide.2 e]
abbrev Z4 : Value := .agg #[.int .u64 0, .int .u64 0, .int .u64 0, .int .u64 0]
theorem Z4_eq : A4 0 = Z4 := by unfold A4 Z4; simp only [W4_zero]

/-- is a datum the format's? -/
def isD (f : Nat) (l m : Int) (d : Dat) : Prop :=
  (d.c = 1 ∧ d.g = false ∧ d.k < 2 ^ (f + 1) ∧ l ≤ d.x ∧ d.x ≤ m ∧ (2 ^ f ≤ d.k ∨ d.x = l)) ∨
  (d.c = 2 ∧ d.g = false ∧ d.x = 0 ∧ d.k = 0) ∨
  (d.c = 3 ∧ d.x = 0 ∧ d.k < 2 ^ (f - 1) ∧ (d.k ≠ 0 ∨ d.g = false))
instance (f : Nat) (l m : Int) (d : Dat) : Decidable (isD f l m d) := inferInstanceAs (Decidable (_ ∨ _ ∨ _))
theorem eq24d (d : Nat) (a0 a1 a2 a3 b0 b1 b2 b3 : Int) (w : World) :
    Sem.run Tryz.prog (Op.equalIn (d + 2) 24 (.agg #[.int .u64 a0, .int .u64 a1, .int .u64 a2, .int .u64 a3]) (.agg #[.int .u64 b0, .int .u64 b1, .int .u64 b2, .int .u64 b3])) w = .ok (decide (a0 = b0 ∧ a1 = b1 ∧ a2 = b2 ∧ a3 = b3)) w := by
  obtain ⟨i22, hi⟩ : ∃ i, Tryz.prog.info? 22 = some i := ⟨_, rfl⟩
  have h := run_equalIn_array (P := Tryz.prog) w (d + 1) (t := 24) (e := 22) (n := 4) #[.int .u64 a0, .int .u64 a1, .int .u64 a2, .int .u64 a3] #[.int .u64 b0, .int .u64 b1, .int .u64 b2, .int .u64 b3] (by kernel_rfl) hi
  refine h.trans ?_
  have hc : Tryz.prog.cellsOf 22 = 1 := by kernel_rfl
  rw [hc]
  simp [List.range_succ, Op.eqItems, go_sem]
  by_cases h0 : a0 = b0 <;> by_cases h1 : a1 = b1 <;> by_cases h2 : a2 = b2 <;> by_cases h3 : a3 = b3 <;> simp [h0, h1, h2, h3]
theorem eq24 (a0 a1 a2 a3 b0 b1 b2 b3 : Int) (w : World) :
    Sem.run Tryz.prog (Op.equalIn 10000 24 (.agg #[.int .u64 a0, .int .u64 a1, .int .u64 a2, .int .u64 a3]) (.agg #[.int .u64 b0, .int .u64 b1, .int .u64 b2, .int .u64 b3])) w = .ok (decide (a0 = b0 ∧ a1 = b1 ∧ a2 = b2 ∧ a3 = b3)) w :=
  eq24d 9998 a0 a1 a2 a3 b0 b1 b2 b3 w
end Go.Proofs.YtehgnckgmdkfmaaGreatDoor

namespace Go.Proofs.YtehgnckgmdkfmaaGreatDoor

/-- what a pattern means, by its fields -/
def mean (f e : Nat) (l : Int) (S E F : Nat) : Dat :=
  if E = 2 ^ e - 1 then spc f (decide (S = 1)) F else if E = 0 then ⟨1, decide (S = 1), false, l, F⟩ else ⟨1, decide (S = 1), false, l + ((E : Int) - 1), F + 2 ^ f⟩
end Go.Proofs.YtehgnckgmdkfmaaGreatDoor

namespace Go.Proofs.YtehgnckgmdkfmaaGreatDoor
open Go.RowKit
/-- a natural number, of at most K words -/
def NV (K V : Nat) (v : Value) (w : World) : Prop := ∃ g k cap z, v = .slice (some ⟨g, 0, none⟩) k cap ∧ k ≤ K ∧ Num w (some ⟨g, 0, none⟩) k cap z ∧ val z k = (V : Int)
theorem NV.next {K V : Nat} {v : Value} {w w' : World} (h : NV K V v w) (hb : Below w.heap.size w w') : NV K V v w' := by
  obtain ⟨g, k, cap, z, h1, h2, h3, h4⟩ := h
  exact ⟨g, k, cap, z, h1, h2, h3.next hb, h4⟩
theorem NV.more {K K' V : Nat} {v : Value} {w : World} (h : NV K V v w) (hk : K ≤ K') : NV K' V v w := by
  obtain ⟨g, k, cap, z, h1, h2, h3, h4⟩ := h
  exact ⟨g, k, cap, z, h1, by omega, h3, h4⟩
/-- a natural number without noughts at its end -/
def NT (K V : Nat) (v : Value) (w : World) : Prop := ∃ g k cap z, v = .slice (some ⟨g, 0, none⟩) k cap ∧ k ≤ K ∧ Num w (some ⟨g, 0, none⟩) k cap z ∧ val z k = (V : Int) ∧ sizeL z k = k
theorem NT.next {K V : Nat} {v : Value} {w w' : World} (h : NT K V v w) (hb : Below w.heap.size w w') : NT K V v w' := by
  obtain ⟨g, k, cap, z, h1, h2, h3, h4, h5⟩ := h
  exact ⟨g, k, cap, z, h1, h2, h3.next hb, h4, h5⟩
theorem NT.zero {K V : Nat} {v : Value} {w : World} (h : NT K V v w) : ∃ g k cap, v = .slice (some ⟨g, 0, none⟩) k cap ∧ k ≤ K ∧ (k = 0 ↔ V = 0) := by
  obtain ⟨g, k, cap, z, h1, h2, h3, h4, h5⟩ := h
  refine ⟨g, k, cap, h1, h2, ?_⟩
  constructor
  · intro hk; subst hk
    have : val z 0 = 0 := rfl
    omega
  · intro hV
    rcases Nat.eq_zero_or_pos k with hk | hk
    · exact hk
    · exfalso
      have ht := sizeL_top (x := z) k (by omega)
      rw [h5] at ht
      obtain ⟨j, rfl⟩ : ∃ j, k = j + 1 := ⟨k - 1, by omega⟩
      have hs : val z (j + 1) = val z j + z j * 18446744073709551616 ^ j := rfl
      have hb := val_bd h3.2.2.1 j
      have hp := pw_pos j
      have hj := h3.2.2.1 j
      have hz : z j ≠ 0 := ht
      have : 1 * 18446744073709551616 ^ j ≤ z j * 18446744073709551616 ^ j := Int.mul_le_mul_of_nonneg_right (by omega) (Int.le_of_lt hp)
      omega
theorem rfits4 (n : Int) (B : Nat) (hB : B < 2 ^ 256) (w : World) :
    Calls Tryz.prog 12 #[.int .i64 n, A4 B] w fun x w' => x = .returned (.bool (decide (okN n ∧ B < 2 ^ (widthN n).toNat))) ∧ Below w.heap.size w w' := by
  refine (rfits_any n (W4 B) (W4_words B) _ (A4_get B) rfl w).mono ?_
  rintro x w' ⟨rfl, hb⟩
  refine ⟨?_, hb⟩
  have hwd := (fields_bounds n).2.1
  have e : (fitsP n (W4 B)) ↔ (okN n ∧ B < 2 ^ (widthN n).toNat) := by
    unfold fitsP
    rw [lenL_low]
    have := len4_le (k := (widthN n).toNat) hB
    rw [show (((widthN n).toNat : Nat) : Int) = widthN n by omega] at this
    rw [this]
  rw [decide_eq_decide.2 e]
section
set_option maxHeartbeats 400000 in
theorem great_v (x g : Int) (hx : 0 ≤ x) (hg : x / 8 = g) (w : World) : Calls Tryz.prog 167 #[.int .i64 x] w fun r w' => r = .returned (.int .i64 g) ∧ w = w' := by
  go_enter Tryz.func167, Tryz.ntmps167
  go_wp2
  go_ret
  exact ⟨rfl, rfl⟩
set_option maxHeartbeats 400000 in
theorem known_v (n : Int) (w : World) : Calls Tryz.prog 99 #[.int .i64 n] w fun r w' => r = .returned (.bool (decide (0 ≤ n ∧ n ≤ 11))) ∧ w = w' := by
  by_cases h0 : 0 ≤ n
  · go_enter Tryz.func99, Tryz.ntmps99
    go_wp2
    go_ret
    exact ⟨by simp [h0], rfl⟩
  · rw [decide_eq_false (fun h => h0 h.1)]
    go_enter Tryz.func99, Tryz.ntmps99
    go_wp2
    go_ret
    exact ⟨rfl, rfl⟩
set_option maxHeartbeats 1000000 in
theorem fields_0 (a b c x y z : Int) (w : World)
    (ga : ∀ W, Calls Tryz.prog 167 #[.int .i64 a] W fun r w' => r = .returned (.int .i64 0) ∧ W = w')
    (gb : ∀ W, Calls Tryz.prog 167 #[.int .i64 b] W fun r w' => r = .returned (.int .i64 0) ∧ W = w')
    (gc : ∀ W, Calls Tryz.prog 167 #[.int .i64 c] W fun r w' => r = .returned (.int .i64 0) ∧ W = w')
    (ha : 0 ≤ a) (hb : 0 ≤ b) (hc : 0 ≤ c) (hx : bits .and .i64 (a / 2) 3 = x) (hy : bits .and .i64 (b / 2) 3 = y) (hz : bits .and .i64 (c / 2) 3 = z) :
    Calls Tryz.prog 153 #[.int .i64 a, .int .i64 b, .int .i64 c] w fun r w' => r = .returned (.tuple #[.int .i64 x, .int .i64 y, .int .i64 z]) ∧ w = w' := by
  have o1 : bits .or .i64 0 0 = 0 := by decide
  have o2 : bits .or .i64 0 0 = 0 := by decide
  go_enter Tryz.func153, Tryz.ntmps153
  go_wp2_with (go_at_call 167; first
    | (refine (ga _).mono ?_; rintro r w1 ⟨rfl, rfl⟩; clear ga)
    | (refine (gb _).mono ?_; rintro r w1 ⟨rfl, rfl⟩; clear gb)
    | (refine (gc _).mono ?_; rintro r w1 ⟨rfl, rfl⟩; clear gc))
  exact bodyPost_ret (by simp only [results, Tryz.results153]; go_simp) rfl ⟨rfl, rfl⟩
set_option maxHeartbeats 1000000 in
theorem fields_1 (a b c x y z : Int) (w : World)
    (ga : ∀ W, Calls Tryz.prog 167 #[.int .i64 a] W fun r w' => r = .returned (.int .i64 0) ∧ W = w')
    (gb : ∀ W, Calls Tryz.prog 167 #[.int .i64 b] W fun r w' => r = .returned (.int .i64 0) ∧ W = w')
    (gc : ∀ W, Calls Tryz.prog 167 #[.int .i64 c] W fun r w' => r = .returned (.int .i64 1) ∧ W = w')
    (ha : 0 ≤ a) (hb : 0 ≤ b) (hc : 0 ≤ c) (hx : bits .and .i64 (a / 2) 3 = x) (hy : bits .and .i64 (b / 2) 3 = y) (hz : bits .and .i64 (c / 2) 3 = z) :
    Calls Tryz.prog 153 #[.int .i64 a, .int .i64 b, .int .i64 c] w fun r w' => r = .returned (.tuple #[.int .i64 x, .int .i64 y, .int .i64 4]) ∧ w = w' := by
  have o1 : bits .or .i64 0 0 = 0 := by decide
  have o2 : bits .or .i64 0 1 = 1 := by decide
  go_enter Tryz.func153, Tryz.ntmps153
  go_wp2_with (go_at_call 167; first
    | (refine (ga _).mono ?_; rintro r w1 ⟨rfl, rfl⟩; clear ga)
    | (refine (gb _).mono ?_; rintro r w1 ⟨rfl, rfl⟩; clear gb)
    | (refine (gc _).mono ?_; rintro r w1 ⟨rfl, rfl⟩; clear gc))
  exact bodyPost_ret (by simp only [results, Tryz.results153]; go_simp) rfl ⟨rfl, rfl⟩
set_option maxHeartbeats 1000000 in
theorem fields_2 (a b c x y z : Int) (w : World)
    (ga : ∀ W, Calls Tryz.prog 167 #[.int .i64 a] W fun r w' => r = .returned (.int .i64 0) ∧ W = w')
    (gb : ∀ W, Calls Tryz.prog 167 #[.int .i64 b] W fun r w' => r = .returned (.int .i64 1) ∧ W = w')
    (gc : ∀ W, Calls Tryz.prog 167 #[.int .i64 c] W fun r w' => r = .returned (.int .i64 0) ∧ W = w')
    (ha : 0 ≤ a) (hb : 0 ≤ b) (hc : 0 ≤ c) (hx : bits .and .i64 (a / 2) 3 = x) (hy : bits .and .i64 (b / 2) 3 = y) (hz : bits .and .i64 (c / 2) 3 = z) :
    Calls Tryz.prog 153 #[.int .i64 a, .int .i64 b, .int .i64 c] w fun r w' => r = .returned (.tuple #[.int .i64 x, .int .i64 z, .int .i64 5]) ∧ w = w' := by
  have o1 : bits .or .i64 0 2 = 2 := by decide
  have o2 : bits .or .i64 2 0 = 2 := by decide
  go_enter Tryz.func153, Tryz.ntmps153
  go_wp2_with (go_at_call 167; first
    | (refine (ga _).mono ?_; rintro r w1 ⟨rfl, rfl⟩; clear ga)
    | (refine (gb _).mono ?_; rintro r w1 ⟨rfl, rfl⟩; clear gb)
    | (refine (gc _).mono ?_; rintro r w1 ⟨rfl, rfl⟩; clear gc))
  exact bodyPost_ret (by simp only [results, Tryz.results153]; go_simp) rfl ⟨rfl, rfl⟩
set_option maxHeartbeats 1000000 in
theorem fields_4 (a b c x y z : Int) (w : World)
    (ga : ∀ W, Calls Tryz.prog 167 #[.int .i64 a] W fun r w' => r = .returned (.int .i64 1) ∧ W = w')
    (gb : ∀ W, Calls Tryz.prog 167 #[.int .i64 b] W fun r w' => r = .returned (.int .i64 0) ∧ W = w')
    (gc : ∀ W, Calls Tryz.prog 167 #[.int .i64 c] W fun r w' => r = .returned (.int .i64 0) ∧ W = w')
    (ha : 0 ≤ a) (hb : 0 ≤ b) (hc : 0 ≤ c) (hx : bits .and .i64 (a / 2) 3 = x) (hy : bits .and .i64 (b / 2) 3 = y) (hz : bits .and .i64 (c / 2) 3 = z) :
    Calls Tryz.prog 153 #[.int .i64 a, .int .i64 b, .int .i64 c] w fun r w' => r = .returned (.tuple #[.int .i64 z, .int .i64 y, .int .i64 6]) ∧ w = w' := by
  have o1 : bits .or .i64 4 0 = 4 := by decide
  have o2 : bits .or .i64 4 0 = 4 := by decide
  go_enter Tryz.func153, Tryz.ntmps153
  go_wp2_with (go_at_call 167; first
    | (refine (ga _).mono ?_; rintro r w1 ⟨rfl, rfl⟩; clear ga)
    | (refine (gb _).mono ?_; rintro r w1 ⟨rfl, rfl⟩; clear gb)
    | (refine (gc _).mono ?_; rintro r w1 ⟨rfl, rfl⟩; clear gc))
  exact bodyPost_ret (by simp only [results, Tryz.results153]; go_simp) rfl ⟨rfl, rfl⟩
set_option maxHeartbeats 1000000 in
theorem fields_3 (a b c x y z : Int) (w : World)
    (ga : ∀ W, Calls Tryz.prog 167 #[.int .i64 a] W fun r w' => r = .returned (.int .i64 0) ∧ W = w')
    (gb : ∀ W, Calls Tryz.prog 167 #[.int .i64 b] W fun r w' => r = .returned (.int .i64 1) ∧ W = w')
    (gc : ∀ W, Calls Tryz.prog 167 #[.int .i64 c] W fun r w' => r = .returned (.int .i64 1) ∧ W = w')
    (ha : 0 ≤ a) (hb : 0 ≤ b) (hc : 0 ≤ c) (hx : bits .and .i64 (a / 2) 3 = x) (hy : bits .and .i64 (b / 2) 3 = y) (hz : bits .and .i64 (c / 2) 3 = z) :
    Calls Tryz.prog 153 #[.int .i64 a, .int .i64 b, .int .i64 c] w fun r w' => r = .returned (.tuple #[.int .i64 x, .int .i64 2, .int .i64 7]) ∧ w = w' := by
  have o1 : bits .or .i64 0 2 = 2 := by decide
  have o2 : bits .or .i64 2 1 = 3 := by decide
  go_enter Tryz.func153, Tryz.ntmps153
  go_wp2_with (go_at_call 167; first
    | (refine (ga _).mono ?_; rintro r w1 ⟨rfl, rfl⟩; clear ga)
    | (refine (gb _).mono ?_; rintro r w1 ⟨rfl, rfl⟩; clear gb)
    | (refine (gc _).mono ?_; rintro r w1 ⟨rfl, rfl⟩; clear gc))
  exact bodyPost_ret (by simp only [results, Tryz.results153]; go_simp) rfl ⟨rfl, rfl⟩
set_option maxHeartbeats 1000000 in
theorem fields_5 (a b c x y z : Int) (w : World)
    (ga : ∀ W, Calls Tryz.prog 167 #[.int .i64 a] W fun r w' => r = .returned (.int .i64 1) ∧ W = w')
    (gb : ∀ W, Calls Tryz.prog 167 #[.int .i64 b] W fun r w' => r = .returned (.int .i64 0) ∧ W = w')
    (gc : ∀ W, Calls Tryz.prog 167 #[.int .i64 c] W fun r w' => r = .returned (.int .i64 1) ∧ W = w')
    (ha : 0 ≤ a) (hb : 0 ≤ b) (hc : 0 ≤ c) (hx : bits .and .i64 (a / 2) 3 = x) (hy : bits .and .i64 (b / 2) 3 = y) (hz : bits .and .i64 (c / 2) 3 = z) :
    Calls Tryz.prog 153 #[.int .i64 a, .int .i64 b, .int .i64 c] w fun r w' => r = .returned (.tuple #[.int .i64 y, .int .i64 1, .int .i64 7]) ∧ w = w' := by
  have o1 : bits .or .i64 4 0 = 4 := by decide
  have o2 : bits .or .i64 4 1 = 5 := by decide
  go_enter Tryz.func153, Tryz.ntmps153
  go_wp2_with (go_at_call 167; first
    | (refine (ga _).mono ?_; rintro r w1 ⟨rfl, rfl⟩; clear ga)
    | (refine (gb _).mono ?_; rintro r w1 ⟨rfl, rfl⟩; clear gb)
    | (refine (gc _).mono ?_; rintro r w1 ⟨rfl, rfl⟩; clear gc))
  exact bodyPost_ret (by simp only [results, Tryz.results153]; go_simp) rfl ⟨rfl, rfl⟩
set_option maxHeartbeats 1000000 in
theorem fields_6 (a b c x y z : Int) (w : World)
    (ga : ∀ W, Calls Tryz.prog 167 #[.int .i64 a] W fun r w' => r = .returned (.int .i64 1) ∧ W = w')
    (gb : ∀ W, Calls Tryz.prog 167 #[.int .i64 b] W fun r w' => r = .returned (.int .i64 1) ∧ W = w')
    (gc : ∀ W, Calls Tryz.prog 167 #[.int .i64 c] W fun r w' => r = .returned (.int .i64 0) ∧ W = w')
    (ha : 0 ≤ a) (hb : 0 ≤ b) (hc : 0 ≤ c) (hx : bits .and .i64 (a / 2) 3 = x) (hy : bits .and .i64 (b / 2) 3 = y) (hz : bits .and .i64 (c / 2) 3 = z) :
    Calls Tryz.prog 153 #[.int .i64 a, .int .i64 b, .int .i64 c] w fun r w' => r = .returned (.tuple #[.int .i64 z, .int .i64 0, .int .i64 7]) ∧ w = w' := by
  have o1 : bits .or .i64 4 2 = 6 := by decide
  have o2 : bits .or .i64 6 0 = 6 := by decide
  go_enter Tryz.func153, Tryz.ntmps153
  go_wp2_with (go_at_call 167; first
    | (refine (ga _).mono ?_; rintro r w1 ⟨rfl, rfl⟩; clear ga)
    | (refine (gb _).mono ?_; rintro r w1 ⟨rfl, rfl⟩; clear gb)
    | (refine (gc _).mono ?_; rintro r w1 ⟨rfl, rfl⟩; clear gc))
  exact bodyPost_ret (by simp only [results, Tryz.results153]; go_simp) rfl ⟨rfl, rfl⟩
set_option maxHeartbeats 1000000 in
theorem fields_7 (a b c x y z : Int) (w : World)
    (ga : ∀ W, Calls Tryz.prog 167 #[.int .i64 a] W fun r w' => r = .returned (.int .i64 1) ∧ W = w')
    (gb : ∀ W, Calls Tryz.prog 167 #[.int .i64 b] W fun r w' => r = .returned (.int .i64 1) ∧ W = w')
    (gc : ∀ W, Calls Tryz.prog 167 #[.int .i64 c] W fun r w' => r = .returned (.int .i64 1) ∧ W = w')
    (ha : 0 ≤ a) (hb : 0 ≤ b) (hc : 0 ≤ c) (hx : bits .and .i64 (a / 2) 3 = x) (hy : bits .and .i64 (b / 2) 3 = y) (hz : bits .and .i64 (c / 2) 3 = z) :
    Calls Tryz.prog 153 #[.int .i64 a, .int .i64 b, .int .i64 c] w fun r w' => r = .returned (.tuple #[.int .i64 0, .int .i64 3, .int .i64 7]) ∧ w = w' := by
  have o1 : bits .or .i64 4 2 = 6 := by decide
  have o2 : bits .or .i64 6 1 = 7 := by decide
  go_enter Tryz.func153, Tryz.ntmps153
  go_wp2_with (go_at_call 167; first
    | (refine (ga _).mono ?_; rintro r w1 ⟨rfl, rfl⟩; clear ga)
    | (refine (gb _).mono ?_; rintro r w1 ⟨rfl, rfl⟩; clear gb)
    | (refine (gc _).mono ?_; rintro r w1 ⟨rfl, rfl⟩; clear gc))
  exact bodyPost_ret (by simp only [results, Tryz.results153]; go_simp) rfl ⟨rfl, rfl⟩
/-- what two great digits or all of them mean -/
def mgT (p s : Int) : Int × Int × Int := if s = 2 then (p * 2, 8, 8) else if s = 1 then (8, p * 2, 8) else if s = 0 then (8, 8, p * 2) else (8, 8, 8)
set_option maxHeartbeats 1000000 in
theorem mgr_v (p s : Int) (w : World) (hp : 0 ≤ p ∧ p < 4) (hs : 0 ≤ s ∧ s < 4) :
    Calls Tryz.prog 152 #[.int .i64 p, .int .i64 s] w fun r w' => r = .returned (.tuple #[.int .i64 (mgT p s).1, .int .i64 (mgT p s).2.1, .int .i64 (mgT p s).2.2]) ∧ w = w' := by
  obtain rfl | rfl | rfl | rfl : s = 0 ∨ s = 1 ∨ s = 2 ∨ s = 3 := by omega
  all_goals (
    go_enter Tryz.func152, Tryz.ntmps152
    go_wp2
    exact bodyPost_ret (by simp only [results, Tryz.results152]; go_simp; first | done | exact ⟨rfl, rfl, rfl⟩) rfl ⟨rfl, rfl⟩)
/-- the digits that fields mean, without their lowest bits -/
def evT (p s v : Int) : Int × Int × Int := if v = 4 then (p * 2, s * 2, 8) else if v = 5 then (p * 2, 8, s * 2) else if v = 6 then (8, s * 2, p * 2) else if v = 7 then mgT p s else (p * 2, s * 2, v * 2)
set_option maxHeartbeats 1000000 in
theorem ev_7 (p s x y z : Int) (w : World)
    (cm : ∀ W, Calls Tryz.prog 152 #[.int .i64 p, .int .i64 s] W fun r w' => r = .returned (.tuple #[.int .i64 x, .int .i64 y, .int .i64 z]) ∧ W = w') :
    Calls Tryz.prog 129 #[.int .i64 p, .int .i64 s, .int .i64 7] w fun r w' => r = .returned (.tuple #[.int .i64 x, .int .i64 y, .int .i64 z]) ∧ w = w' := by
  go_enter Tryz.func129, Tryz.ntmps129
  go_wp2_with (go_at_call 152; refine (cm _).mono ?_; rintro r w1 ⟨rfl, rfl⟩)
  exact bodyPost_ret (by simp only [results, Tryz.results129]; go_simp; first | done | exact ⟨rfl, rfl, rfl⟩) rfl ⟨rfl, rfl⟩
set_option maxHeartbeats 1000000 in
theorem evens_v (p s v : Int) (w : World) (hp : 0 ≤ p ∧ p < 4) (hs : 0 ≤ s ∧ s < 4) (hv : 0 ≤ v ∧ v < 8) :
    Calls Tryz.prog 129 #[.int .i64 p, .int .i64 s, .int .i64 v] w fun r w' => r = .returned (.tuple #[.int .i64 (evT p s v).1, .int .i64 (evT p s v).2.1, .int .i64 (evT p s v).2.2]) ∧ w = w' := by
  by_cases h7 : v = 7
  · subst h7
    exact ev_7 p s _ _ _ w (fun W => mgr_v p s W hp hs)
  by_cases h4 : v = 4
  · subst h4
    go_enter Tryz.func129, Tryz.ntmps129
    go_wp2
    exact bodyPost_ret (by simp only [results, Tryz.results129]; go_simp; first | done | exact ⟨rfl, rfl, rfl⟩) rfl ⟨rfl, rfl⟩
  by_cases h5 : v = 5
  · subst h5
    go_enter Tryz.func129, Tryz.ntmps129
    go_wp2
    exact bodyPost_ret (by simp only [results, Tryz.results129]; go_simp; first | done | exact ⟨rfl, rfl, rfl⟩) rfl ⟨rfl, rfl⟩
  by_cases h6 : v = 6
  · subst h6
    go_enter Tryz.func129, Tryz.ntmps129
    go_wp2
    exact bodyPost_ret (by simp only [results, Tryz.results129]; go_simp; first | done | exact ⟨rfl, rfl, rfl⟩) rfl ⟨rfl, rfl⟩
  have e : evT p s v = (p * 2, s * 2, v * 2) := by
    unfold evT
    rw [if_neg h4, if_neg h5, if_neg h6, if_neg h7]
  rw [e]
  have b4 : (v == 4) = false := by simp [h4]
  have b5 : (v == 5) = false := by simp [h5]
  have b6 : (v == 6) = false := by simp [h6]
  have b7 : (v == 7) = false := by simp [h7]
  go_enter Tryz.func129, Tryz.ntmps129
  go_wp2
  exact bodyPost_ret (by simp only [results, Tryz.results129]; go_simp; first | done | exact ⟨rfl, rfl, rfl⟩) rfl ⟨rfl, rfl⟩
end
end Go.Proofs.YtehgnckgmdkfmaaGreatDoor

set_option maxRecDepth 100000
namespace Go.Proofs.YtehgnckgmdkfmaaGreatDoor
open Go.ChangeShapes Go.WideShapes Go.ChangeAt Go.RowKit

section
variable {H : Type} {enc : TypeId × Value → H} {W : World} {r : Reach} {base b : Nat} {sp : Nat → Bool} {held : Bool} {t : TypeId} {n : Nat} {v : Value} {d : DataW H} {p : List MemPlace}
theorem open_bits (hok : Value.okWide Tryz.prog W r base 24 v) (h : DataW.Trod enc Tryz.prog W b sp held 24 v d p) : ∃ A, A < 2 ^ 256 ∧ v = A4 A ∧ p = [] := by
  obtain ⟨x, hx, rfl, hp⟩ := open_words Tryz.underlying24 (by kernel_rfl) hok h
  obtain ⟨A, hA, he, _⟩ := words_A4 hx
  exact ⟨A, hA, he, hp⟩
theorem bits_stay {W' : World} {sp' : Nat → Bool} (h : DataW.Trod enc Tryz.prog W 0 (fun _ => true) true 24 v d []) : DataW.Trod enc Tryz.prog W' 0 sp' true 24 v d [] :=
  WideElems.Trod_stays Tryz.laidOut (by kernel_rfl) (of_decide_eq_true (by kernel_rfl)) h (by simp) (by simp)
end
end Go.Proofs.YtehgnckgmdkfmaaGreatDoor
