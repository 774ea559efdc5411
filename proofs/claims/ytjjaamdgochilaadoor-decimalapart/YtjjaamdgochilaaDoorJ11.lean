/-
  Texts that the proof leans on, joined: Bu, Va, Dp, Za, Zb.
-/
import Derived.Test.YtjjaamdgochilaaDoorJ7
import Derived.Test.YtjjaamdgochilaaDoorJ10
import Derived.Test.YtjjaamdgochilaaDoorJ1
import Derived.Test.YtjjaamdgochilaaDoorJ5
import Derived.BigQuiet
set_option linter.unusedVariables false
set_option linter.unusedSectionVars false
set_option linter.unusedSimpArgs false
set_option maxRecDepth 20000
namespace Go.Proofs.YtjjaamdgochilaaDoor
open Go.RowKit

theorem cell_set_map (W : World) (b i : Nat) (v : Value) : (W.setCell ⟨b, i, none⟩ v).cell? ⟨b, i, none⟩ = (W.cell? ⟨b, i, none⟩).map fun _ => v := by
  unfold World.cell? World.setCell
  simp only [Array.getElem?_modify, if_true]
  cases h : W.heap[b]? with
  | none => simp
  | some o =>
    cases o with
    | cells c e fr =>
      simp only [Option.map_some, Option.isSome_none, Bool.false_eq_true, if_false]
      by_cases hi : i < c.size
      · simp [hi]
      · simp [hi]
    | _ => simp
/-- a datum: class, sign, signal, exponent, coefficient -/
structure Dat where
  c : Int
  s : Bool
  g : Bool
  x : Int
  k : Nat
abbrev DV (c : Int) (s g : Bool) (x : Int) (k : Nat) : Value := .agg #[.int .i64 c, .bool s, .bool g, .int .i64 x, .int .u64 (W4 k 0), .int .u64 (W4 k 1), .int .u64 (W4 k 2), .int .u64 (W4 k 3)]
abbrev Dat.v (d : Dat) : Value := DV d.c d.s d.g d.x d.k
theorem W4_zero (i : Nat) : W4 0 i = 0 := by unfold W4; simp
/-- what the pattern with that fraction means, the exponent all ones -/
def spc (f : Nat) (s : Bool) (F : Nat) : Dat := if F = 0 then ⟨2, s, false, 0, 0⟩ else if F < 2 ^ (f - 1) then ⟨3, s, true, 0, F⟩ else ⟨3, s, false, 0, F - 2 ^ (f - 1)⟩

end Go.Proofs.YtjjaamdgochilaaDoor

namespace Go.Proofs.YtjjaamdgochilaaDoor
open Go.RowKit

/-- a decimal format: T's bits, G's bits behind the five, declets, the least exponent, dense -/
structure DF where
  t : Nat
  w : Nat
  j : Nat
  l : Int
  dn : Bool
def DF.ok (f : DF) : Prop := (f.t = 20 ∧ f.w = 6 ∧ f.j = 2 ∧ f.l = -101) ∨ (f.t = 50 ∧ f.w = 8 ∧ f.j = 5 ∧ f.l = -398) ∨ (f.t = 110 ∧ f.w = 12 ∧ f.j = 11 ∧ f.l = -6176)
/-- the fields of a pattern -/
def vR (f : DF) (B : Nat) : Nat := B % 2 ^ f.t
def vG (f : DF) (B : Nat) : Nat := B / 2 ^ f.t % 2 ^ (f.w + 5)
def vS (f : DF) (B : Nat) : Bool := decide (B / 2 ^ (f.t + (f.w + 5)) % 2 = 1)
/-- the five bits -/
def vV (w G : Nat) : Nat := G / 2 ^ w
/-- the exponent's field, the first digit or bits -/
def vF (dn : Bool) (w G : Nat) : Nat :=
  if dn then (if vV w G < 24 then vV w G / 8 * 2 ^ w + G % 2 ^ w else vV w G / 2 % 4 * 2 ^ w + G % 2 ^ w)
  else (if vV w G < 24 then G / 8 else G / 2 % 2 ^ (w + 2))
def vL (dn : Bool) (w G : Nat) : Nat :=
  if dn then (if vV w G < 24 then vV w G % 8 else 8 + vV w G % 2) else (if vV w G < 24 then G % 8 else 8 + G % 2)
/-- the tail's number -/
def vT (f : DF) (R : Nat) : Nat := if f.dn then dlU f.j R else R
/-- what the first digit counts -/
def vQ (f : DF) : Nat := if f.dn then 10 ^ (3 * f.j) else 2 ^ f.t
/-- what fields mean -/
def vD (f : DF) (s : Bool) (G R : Nat) : Dat :=
  if vV f.w G = 30 then ⟨2, s, false, 0, 0⟩
  else if vV f.w G = 31 then ⟨3, s, decide (G / 2 ^ (f.w - 1) % 2 = 1), 0, if vT f R < 10 ^ (3 * f.j) then vT f R else 0⟩
  else ⟨1, s, false, (vF f.dn f.w G : Int) + f.l, if vL f.dn f.w G * vQ f + vT f R < 10 ^ (3 * f.j + 1) then vL f.dn f.w G * vQ f + vT f R else 0⟩
/-- what a pattern means -/
def vM (f : DF) (B : Nat) : Dat := vD f (vS f B) (vG f B) (vR f B)
/-- a datum is the format's -/
def vI (f : DF) (d : Dat) : Prop :=
  (d.c = 1 ∧ d.g = false ∧ d.k < 10 ^ (3 * f.j + 1) ∧ f.l ≤ d.x ∧ d.x ≤ f.l + 3 * 2 ^ f.w - 1) ∨ (d.c = 2 ∧ d.g = false ∧ d.k = 0 ∧ d.x = 0) ∨ (d.c = 3 ∧ d.x = 0 ∧ d.k < 10 ^ (3 * f.j))
/-- G of an exponent's field and a first digit -/
def vN (dn : Bool) (w E a : Nat) : Nat :=
  if dn then (if 8 ≤ a then 24 + E / 2 ^ w * 2 + a % 2 else E / 2 ^ w * 8 + a) * 2 ^ w + E % 2 ^ w
  else (if 8 ≤ a then 3 * 2 ^ (w + 3) + E * 2 + a % 2 else E * 8 + a)
/-- a datum's fields -/
def vPG (f : DF) (d : Dat) : Nat :=
  if d.c = 2 then 30 * 2 ^ f.w else if d.c = 3 then 31 * 2 ^ f.w + (if d.g then 2 ^ (f.w - 1) else 0)
  else vN f.dn f.w (d.x - f.l).toNat (d.k / vQ f)
def vPR (f : DF) (d : Dat) : Nat :=
  if d.c = 2 then 0 else if d.c = 3 then (if f.dn then dlP f.j d.k else d.k)
  else if f.dn then dlP f.j (d.k % 10 ^ (3 * f.j)) else d.k % 2 ^ f.t
/-- a datum's pattern -/
def vP (f : DF) (d : Dat) : Nat := (if d.s then 2 ^ (f.t + (f.w + 5)) else 0) + vPG f d * 2 ^ f.t + vPR f d

theorem ten3 (j : Nat) : (10 : Nat) ^ (3 * j) = 1000 ^ j := by rw [Nat.pow_mul]
theorem DF.ok.t10 {f : DF} (h : f.ok) : f.t = 10 * f.j := by
  rcases h with ⟨h1, h2, h3, h4⟩ | ⟨h1, h2, h3, h4⟩ | ⟨h1, h2, h3, h4⟩ <;> omega
theorem DF.ok.pt {f : DF} (h : f.ok) : 2 ^ f.t = 1024 ^ f.j := by rw [h.t10, Nat.pow_mul]
/-- the fields of a pattern that is laid of them -/
theorem v_parts (f : DF) (s : Bool) {G R : Nat} (hG : G < 2 ^ (f.w + 5)) (hR : R < 2 ^ f.t) :
    vR f ((if s then 2 ^ (f.t + (f.w + 5)) else 0) + G * 2 ^ f.t + R) = R ∧ vG f ((if s then 2 ^ (f.t + (f.w + 5)) else 0) + G * 2 ^ f.t + R) = G ∧ vS f ((if s then 2 ^ (f.t + (f.w + 5)) else 0) + G * 2 ^ f.t + R) = s := by
  have e : (if s then 2 ^ (f.t + (f.w + 5)) else 0) + G * 2 ^ f.t + R = ((if s then 1 else 0) * 2 ^ (f.w + 5) + G) * 2 ^ f.t + R := by
    cases s
    · simp
    · simp only [if_true, Nat.one_mul, Nat.add_mul]
      rw [← Nat.pow_add, Nat.add_comm (f.w + 5) f.t]
  rw [e]
  have hT : 0 < 2 ^ f.t := Nat.two_pow_pos _
  have hH : 0 < 2 ^ (f.w + 5) := Nat.two_pow_pos _
  have h1 : (((if s then 1 else 0) * 2 ^ (f.w + 5) + G) * 2 ^ f.t + R) % 2 ^ f.t = R := by rw [Nat.mul_comm, Nat.mul_add_mod, Nat.mod_eq_of_lt hR]
  have h2 : (((if s then 1 else 0) * 2 ^ (f.w + 5) + G) * 2 ^ f.t + R) / 2 ^ f.t = (if s then 1 else 0) * 2 ^ (f.w + 5) + G := by rw [Nat.mul_comm, Nat.mul_add_div hT, Nat.div_eq_of_lt hR, Nat.add_zero]
  have h3 : ((if s then 1 else 0) * 2 ^ (f.w + 5) + G) % 2 ^ (f.w + 5) = G := by rw [Nat.mul_comm, Nat.mul_add_mod, Nat.mod_eq_of_lt hG]
  have h4 : ((if s then 1 else 0) * 2 ^ (f.w + 5) + G) / 2 ^ (f.w + 5) = (if s then 1 else 0) := by rw [Nat.mul_comm, Nat.mul_add_div hH, Nat.div_eq_of_lt hG, Nat.add_zero]
  refine ⟨h1, ?_, ?_⟩
  · unfold vG; rw [h2, h3]
  · unfold vS; rw [Nat.pow_add 2 f.t (f.w + 5), ← Nat.div_div_eq_div_mul, h2, h4]; cases s <;> rfl
/-- a pattern is its fields -/
theorem v_whole (f : DF) {B : Nat} (hB : B < 2 ^ (f.t + (f.w + 6))) : B = (if vS f B then 2 ^ (f.t + (f.w + 5)) else 0) + vG f B * 2 ^ f.t + vR f B := by
  have h1 := Nat.div_add_mod B (2 ^ f.t)
  have h2 := Nat.div_add_mod (B / 2 ^ f.t) (2 ^ (f.w + 5))
  have e5 : B / 2 ^ f.t / 2 ^ (f.w + 5) = B / 2 ^ (f.t + (f.w + 5)) := by rw [Nat.div_div_eq_div_mul, ← Nat.pow_add]
  rw [e5] at h2
  have h3 : B / 2 ^ (f.t + (f.w + 5)) < 2 := by
    rw [Nat.div_lt_iff_lt_mul (Nat.two_pow_pos _), ← Nat.pow_succ']
    exact hB
  have h4 : (if vS f B then 2 ^ (f.t + (f.w + 5)) else 0) = B / 2 ^ (f.t + (f.w + 5)) * 2 ^ (f.t + (f.w + 5)) := by
    unfold vS
    clear h2 e5
    generalize B / 2 ^ (f.t + (f.w + 5)) = q at *
    rcases (show q = 0 ∨ q = 1 by omega) with e | e <;> rw [e] <;> simp
  rw [h4]
  unfold vG vR
  have h5 : 2 ^ (f.t + (f.w + 5)) = 2 ^ (f.w + 5) * 2 ^ f.t := by rw [← Nat.pow_add, Nat.add_comm]
  generalize B / 2 ^ (f.t + (f.w + 5)) = q at *
  rw [h5]
  generalize 2 ^ (f.w + 5) = H at *
  generalize B / 2 ^ f.t % H = G at *
  generalize B % 2 ^ f.t = R at *
  rw [← h1, ← h2, Nat.mul_add, Nat.mul_comm (2 ^ f.t) G, Nat.mul_comm H q, Nat.mul_comm (2 ^ f.t), Nat.mul_assoc]
theorem vG_lt (f : DF) (B : Nat) : vG f B < 2 ^ (f.w + 5) := Nat.mod_lt _ (Nat.two_pow_pos _)
theorem vR_lt (f : DF) (B : Nat) : vR f B < 2 ^ f.t := Nat.mod_lt _ (Nat.two_pow_pos _)
theorem vT_lt {f : DF} (h : f.ok) (hd : f.dn = true) (R : Nat) : vT f R < 10 ^ (3 * f.j) := by
  unfold vT
  rw [hd, if_pos rfl, ten3]
  exact dlU_lt _ _
/-- what a pattern means is the format's -/
theorem vD_is {f : DF} (h : f.ok) (s : Bool) {G R : Nat} (hG : G < 2 ^ (f.w + 5)) (hR : R < 2 ^ f.t) : vI f (vD f s G R) := by
  have hp : 0 < (10 : Nat) ^ (3 * f.j) := Nat.pow_pos (by decide)
  have hp' : 0 < (10 : Nat) ^ (3 * f.j + 1) := Nat.pow_pos (by decide)
  unfold vD
  by_cases h30 : vV f.w G = 30
  · rw [if_pos h30]; exact Or.inr (Or.inl ⟨rfl, rfl, rfl, rfl⟩)
  · rw [if_neg h30]
    by_cases h31 : vV f.w G = 31
    · rw [if_pos h31]
      refine Or.inr (Or.inr ⟨rfl, rfl, ?_⟩)
      show (if vT f R < 10 ^ (3 * f.j) then vT f R else 0) < 10 ^ (3 * f.j)
      split <;> omega
    · rw [if_neg h31]
      refine Or.inl ⟨rfl, rfl, ?_, ?_, ?_⟩
      · show (if vL f.dn f.w G * vQ f + vT f R < 10 ^ (3 * f.j + 1) then vL f.dn f.w G * vQ f + vT f R else 0) < 10 ^ (3 * f.j + 1)
        split <;> omega
      · show f.l ≤ (vF f.dn f.w G : Int) + f.l
        omega
      · show (vF f.dn f.w G : Int) + f.l ≤ f.l + 3 * 2 ^ f.w - 1
        have : vF f.dn f.w G < 3 * 2 ^ f.w := by
          unfold vF
          unfold vV at *
          rcases h with ⟨h1, h2, h3, h4⟩ | ⟨h1, h2, h3, h4⟩ | ⟨h1, h2, h3, h4⟩ <;> rw [h2] at hG h30 h31 ⊢ <;> cases f.dn <;> simp only [Bool.false_eq_true, if_false, if_true] <;> simp only [Nat.reducePow, Nat.reduceAdd] at * <;> split <;> omega
        have e : ((3 * 2 ^ f.w : Nat) : Int) = 3 * 2 ^ f.w := by simp
        omega
theorem vM_is {f : DF} (h : f.ok) (B : Nat) : vI f (vM f B) := vD_is h _ (vG_lt f B) (vR_lt f B)
theorem vPG_lt {f : DF} (h : f.ok) {d : Dat} (hd : vI f d) : vPG f d < 2 ^ (f.w + 5) := by
  have hq : d.c = 1 → d.k / vQ f ≤ 9 := fun h1 => by
    rcases hd with ⟨_, _, hk, _, _⟩ | ⟨h2, _⟩ | ⟨h2, _⟩
    · unfold vQ
      rcases h with ⟨h1, h2, h3, h4⟩ | ⟨h1, h2, h3, h4⟩ | ⟨h1, h2, h3, h4⟩ <;> rw [h3] at hk ⊢ <;> rw [h1] <;> cases f.dn <;> simp only [Bool.false_eq_true, if_false, if_true] <;> simp only [Nat.reducePow, Nat.reduceAdd, Nat.reduceMul] at * <;> omega
    · omega
    · omega
  unfold vPG
  rcases hd with ⟨c1, g1, hk, hx, hx'⟩ | ⟨c1, g1, hk, hx⟩ | ⟨c1, hx, hk⟩
  · have h9 := hq c1
    rw [if_neg (by omega), if_neg (by omega)]
    generalize d.k / vQ f = a at *
    have hE : (d.x - f.l).toNat < 3 * 2 ^ f.w := by
      have e : ((3 * 2 ^ f.w : Nat) : Int) = 3 * 2 ^ f.w := by simp
      omega
    generalize (d.x - f.l).toNat = E at *
    unfold vN
    rcases h with ⟨h1, h2, h3, h4⟩ | ⟨h1, h2, h3, h4⟩ | ⟨h1, h2, h3, h4⟩ <;> rw [h2] at hE ⊢ <;> cases f.dn <;> simp only [Bool.false_eq_true, if_false, if_true] <;> simp only [Nat.reducePow, Nat.reduceAdd, Nat.reduceMul] at * <;> split <;> omega
  · rw [if_pos c1]
    rcases h with ⟨h1, h2, h3, h4⟩ | ⟨h1, h2, h3, h4⟩ | ⟨h1, h2, h3, h4⟩ <;> rw [h2] <;> decide
  · rw [if_neg (by omega), if_pos c1]
    rcases h with ⟨h1, h2, h3, h4⟩ | ⟨h1, h2, h3, h4⟩ | ⟨h1, h2, h3, h4⟩ <;> rw [h2] <;> cases d.g <;> decide
theorem vPR_lt {f : DF} (h : f.ok) {d : Dat} (hd : vI f d) : vPR f d < 2 ^ f.t := by
  unfold vPR
  rcases hd with ⟨c1, g1, hk, hx, hx'⟩ | ⟨c1, g1, hk, hx⟩ | ⟨c1, hx, hk⟩
  · rw [if_neg (by omega), if_neg (by omega)]
    split
    · rw [h.pt]; exact dlP_lt _ _
    · exact Nat.mod_lt _ (Nat.two_pow_pos _)
  · rw [if_pos c1]; exact Nat.two_pow_pos _
  · rw [if_neg (by omega), if_pos c1]
    split
    · rw [h.pt]; exact dlP_lt _ _
    · refine Nat.lt_of_lt_of_le hk ?_
      rcases h with ⟨h1, h2, h3, h4⟩ | ⟨h1, h2, h3, h4⟩ | ⟨h1, h2, h3, h4⟩ <;> rw [h1, h3] <;> decide
theorem vP_lt {f : DF} (h : f.ok) {d : Dat} (hd : vI f d) : vP f d < 2 ^ (f.t + (f.w + 6)) := by
  have h1 := vPG_lt h hd
  have h2 := vPR_lt h hd
  unfold vP
  have e5 : 2 ^ (f.t + (f.w + 5)) = 2 ^ (f.w + 5) * 2 ^ f.t := by rw [← Nat.pow_add, Nat.add_comm]
  have e6 : 2 ^ (f.t + (f.w + 6)) = 2 * (2 ^ (f.w + 5) * 2 ^ f.t) := by rw [← Nat.pow_add, ← Nat.pow_succ']; congr 1; omega
  have h3 : (if d.s then 2 ^ (f.t + (f.w + 5)) else 0) ≤ 2 ^ (f.w + 5) * 2 ^ f.t := by split <;> omega
  have h4 : (vPG f d + 1) * 2 ^ f.t ≤ 2 ^ (f.w + 5) * 2 ^ f.t := Nat.mul_le_mul_right _ h1
  rw [Nat.add_mul, Nat.one_mul] at h4
  rw [e6]
  omega
theorem vP_256 {f : DF} (h : f.ok) {d : Dat} (hd : vI f d) : vP f d < 2 ^ 256 := by
  refine Nat.lt_of_lt_of_le (vP_lt h hd) (Nat.pow_le_pow_right (by decide) ?_)
  rcases h with ⟨h1, h2, h3, h4⟩ | ⟨h1, h2, h3, h4⟩ | ⟨h1, h2, h3, h4⟩ <;> omega
theorem vM_256 {f : DF} (h : f.ok) (B : Nat) : (vM f B).k < 2 ^ 256 := by
  have hi := vM_is h B
  have e : (10 : Nat) ^ (3 * f.j + 1) ≤ 10 ^ 34 := Nat.pow_le_pow_right (by decide) (by rcases h with ⟨h1, h2, h3, h4⟩ | ⟨h1, h2, h3, h4⟩ | ⟨h1, h2, h3, h4⟩ <;> omega)
  have e' : (10 : Nat) ^ (3 * f.j) ≤ 10 ^ 34 := Nat.pow_le_pow_right (by decide) (by rcases h with ⟨h1, h2, h3, h4⟩ | ⟨h1, h2, h3, h4⟩ | ⟨h1, h2, h3, h4⟩ <;> omega)
  have e2 : (10 : Nat) ^ 34 < 2 ^ 256 := by decide
  rcases hi with ⟨_, _, hk, _⟩ | ⟨_, _, hk, _⟩ | ⟨_, _, hk⟩ <;> omega
/-- the first digit and the exponent's field of what was laid -/
theorem vN_back {f : DF} (h : f.ok) {E a : Nat} (hE : E < 3 * 2 ^ f.w) (ha : a ≤ 9) : vF f.dn f.w (vN f.dn f.w E a) = E ∧ vL f.dn f.w (vN f.dn f.w E a) = a ∧ vV f.w (vN f.dn f.w E a) ≠ 30 ∧ vV f.w (vN f.dn f.w E a) ≠ 31 := by
  unfold vF vL vN vV
  rcases h with ⟨h1, h2, h3, h4⟩ | ⟨h1, h2, h3, h4⟩ | ⟨h1, h2, h3, h4⟩ <;> rw [h2] at hE ⊢ <;> cases f.dn <;> simp only [Bool.false_eq_true, if_false, if_true] <;> simp only [Nat.reducePow, Nat.reduceAdd, Nat.reduceMul] at * <;> by_cases h8 : 8 ≤ a
  all_goals simp only [h8, if_true, if_false]
  all_goals refine ⟨?_, ?_, ?_, ?_⟩
  all_goals (try split) <;> omega
/-- what was packed means what it was -/
theorem vM_vP {f : DF} (h : f.ok) {d : Dat} (hd : vI f d) : vM f (vP f d) = d := by
  obtain ⟨e1, e2, e3⟩ := v_parts f d.s (vPG_lt h hd) (vPR_lt h hd)
  unfold vM
  unfold vP
  rw [e1, e2, e3]
  obtain ⟨c, s, g, x, k⟩ := d
  unfold vD vPG vPR
  rcases hd with ⟨c1, g1, hk, hx, hx'⟩ | ⟨c1, g1, hk, hx⟩ | ⟨c1, hx, hk⟩
  · simp only at c1 g1 hk hx hx'
    subst c1 g1
    simp only [show ¬ (1 : Int) = 2 by decide, show ¬ (1 : Int) = 3 by decide, if_false]
    have hE : (x - f.l).toNat < 3 * 2 ^ f.w := by
      have e : ((3 * 2 ^ f.w : Nat) : Int) = 3 * 2 ^ f.w := by simp
      omega
    have ha : k / vQ f ≤ 9 := by
      unfold vQ
      rcases h with ⟨h1, h2, h3, h4⟩ | ⟨h1, h2, h3, h4⟩ | ⟨h1, h2, h3, h4⟩ <;> rw [h3] at hk ⊢ <;> rw [h1] <;> cases f.dn <;> simp only [Bool.false_eq_true, if_false, if_true] <;> simp only [Nat.reducePow, Nat.reduceAdd, Nat.reduceMul] at * <;> omega
    obtain ⟨b1, b2, b3, b4⟩ := vN_back h hE ha
    rw [if_neg b3, if_neg b4, b1, b2]
    have ht : k / vQ f * vQ f + vT f (if f.dn then dlP f.j (k % 10 ^ (3 * f.j)) else k % 2 ^ f.t) = k := by
      unfold vT vQ
      cases f.dn
      · simp only [Bool.false_eq_true, if_false]
        rw [Nat.mul_comm]; exact Nat.div_add_mod k _
      · simp only [if_true]
        rw [dl_there _ _ (by rw [← ten3]; exact Nat.mod_lt _ (Nat.pow_pos (by decide))), Nat.mul_comm]
        exact Nat.div_add_mod k _
    rw [ht, if_pos hk]
    congr 1
    omega
  · simp only at c1 g1 hk hx
    subst c1 g1 hk hx
    simp only [if_true]
    have : vV f.w (30 * 2 ^ f.w) = 30 := by unfold vV; exact Nat.mul_div_cancel _ (Nat.two_pow_pos _)
    rw [if_pos this]
  · simp only at c1 hx hk
    subst c1 hx
    simp only [show ¬ (3 : Int) = 2 by decide, if_false, if_true]
    have hw : 2 ^ f.w = 2 * 2 ^ (f.w - 1) := by rw [← Nat.pow_succ']; congr 1; rcases h with ⟨h1, h2, h3, h4⟩ | ⟨h1, h2, h3, h4⟩ | ⟨h1, h2, h3, h4⟩ <;> omega
    have hp := Nat.two_pow_pos (f.w - 1)
    have h31 : vV f.w (31 * 2 ^ f.w + if g then 2 ^ (f.w - 1) else 0) = 31 := by
      unfold vV
      rw [Nat.mul_comm, Nat.mul_add_div (Nat.two_pow_pos _), Nat.div_eq_of_lt (by split <;> omega)]
    have hg : decide ((31 * 2 ^ f.w + if g then 2 ^ (f.w - 1) else 0) / 2 ^ (f.w - 1) % 2 = 1) = g := by
      rw [hw, show 31 * (2 * 2 ^ (f.w - 1)) = 2 ^ (f.w - 1) * 62 by omega, Nat.mul_add_div hp]
      cases g
      · simp
      · simp only [if_true]; rw [Nat.div_self hp]; decide
    rw [if_neg (by rw [h31]; decide), if_pos h31, hg]
    have ht : vT f (if f.dn then dlP f.j k else k) = k := by
      unfold vT
      cases f.dn
      · simp
      · simp only [if_true]
        exact dl_there _ _ (by rw [← ten3]; exact hk)
    rw [ht, if_pos hk]
end Go.Proofs.YtjjaamdgochilaaDoor

namespace Go.Proofs.YtjjaamdgochilaaDoor
open Go.RowKit
attribute [local go_sem] setCell_drewN alloc_drewN

set_option maxHeartbeats 1000000 in
theorem limMul4 (x : Nat → Int) (n : Int) (w : World) (hx : Words x) (hn : 0 ≤ n ∧ n ≤ 18446744073709551615) :
    Calls Tryd.prog 42 #[.agg (arrOf x 4), .int .u64 n] w fun e w' => e = .returned (.tuple #[.agg (arrOf (mulP x n) 4), .int .u64 (mulC x n 4)]) ∧ Below w.heap.size w w' := by
  have sx : (arrOf x 4).size = 4 := arrOf_size x 4
  have gx := fun i h => arrOf_get x 4 i h
  generalize arrOf x 4 = ax at *
  go_enter Tryd.func42, Tryd.ntmps42
  go_wp2
  go_loopw [7, 15] (fun c i wr => ∃ (k : Nat) (ss : Array Value), k ≤ 4 ∧ i = .int .i64 k ∧ c = .int .u64 (mulC x n k) ∧ ss.size = 4 ∧ (∀ j h, ss[j]'h = Value.int .u64 (if j < k then mulP x n j else 0)) ∧ wr = ((w.alloc (.cells ax 23)).alloc (.cells #[.int .u64 0, .int .u64 0, .int .u64 0, .int .u64 0] 23)).alloc (.cells ss 23)) (fun _ i _ => 4 - (intOf i).toNat)
  case atStart => exact ⟨0, _, Nat.zero_le _, rfl, rfl, rfl, by intro j h; have h' : j < 4 := h; match j, h' with | 0, _ => rfl | 1, _ => rfl | 2, _ => rfl | 3, _ => rfl, rfl⟩
  case round =>
    obtain ⟨k, ss, hk, rfl, rfl, hsz, hss, rfl⟩ := hrel
    by_cases h8 : k < 4
    · have h8i : (k : Int) < 4 := by omega
      have h8s : k < ss.size := by omega
      have bx := hx k
      have bc := mulC_word hx hn k
      have bc' := mulC_word hx hn (k + 1)
      have hcx : ∀ h, ax[k]'h = .int .u64 (x k) := fun h => gx k h
      have hsk : ss[k]? = some (.int .u64 0) := by rw [Array.getElem?_eq_getElem h8s, hss k h8s, if_neg (by omega)]
      have HR : Hid (∀ (i : Nat) (h : i < (ss.setIfInBounds k (.int .u64 (mulP x n k))).size), (ss.setIfInBounds k (.int .u64 (mulP x n k)))[i]'h = Value.int .u64 (if i < k + 1 then mulP x n i else 0)) := set_next hss
      have hmul := mul64 (x k) n bx hn
      have e1 : mulC x n (k + 1) = x k * n / 18446744073709551616 + (x k * n % 18446744073709551616 + mulC x n k) / 18446744073709551616 := rfl
      have e2 : mulP x n k = (x k * n % 18446744073709551616 + mulC x n k) % 18446744073709551616 := rfl
      rw [e1] at bc'
      have HE1 : Hid (mulC x n (k + 1) = x k * n / 18446744073709551616 + (x k * n % 18446744073709551616 + mulC x n k) / 18446744073709551616) := e1
      have HE2 : Hid (mulP x n k = (x k * n % 18446744073709551616 + mulC x n k) % 18446744073709551616) := e2
      have hP : 0 ≤ x k * n := Int.mul_nonneg bx.1 hn.1
      clear hss gx e1 e2 hx
      generalize x k * n = P at *
      have hL : 0 ≤ P % 18446744073709551616 := by omega
      have hH : 0 ≤ P / 18446744073709551616 := by omega
      generalize P / 18446744073709551616 = hi at *
      generalize P % 18446744073709551616 = lo at *
      generalize hCC : mulC x n k = c at *
      have hadd := fun w => add64z lo c hL bc.1 w
      go_wp2_with (go_at_call 72; refine (hmul _).mono ?_; rintro e w' ⟨rfl, rfl⟩)
      go_roundw
      case rel => refine ⟨k + 1, ss.setIfInBounds k (.int .u64 (mulP x n k)), by omega, by go_num, by rw [HE1.out], by simp [hsz], HR.out, by rw [HE2.out]⟩
      case measure => simp [intOf]; omega
    · obtain rfl : k = 4 := by omega
      have hss' : ∀ j h, ss[j]'h = Value.int .u64 (mulP x n j) := by
        intro j h; rw [hss j h, if_pos (by omega)]
      clear hss
      go_wp2
      exact bodyPost_ret (v := .tuple #[.agg (arrOf (mulP x n) 4), .int .u64 (mulC x n 4)]) (by simp [results, Tryd.results42, go_sem]; rfl) rfl ⟨rfl, below_alloc3 _ _ _ _ 0⟩
set_option maxHeartbeats 1000000 in
theorem limDiv4 (x : Nat → Int) (d : Int) (w : World) (hd : 0 < d ∧ d ≤ 18446744073709551615)
    (H : ∀ j, j < 4 → ∀ w, Calls Tryd.prog 81 #[.int .u64 (remJ x d 4 (4 - 1 - j)), .int .u64 (x j), .int .u64 d] w fun e w' => e = .returned (.tuple #[.int .u64 (quoW x d 4 j), .int .u64 (remJ x d 4 (4 - j))]) ∧ ∃ m, w' = w.drewN m) :
    Calls Tryd.prog 92 #[.agg (arrOf x 4), .int .u64 d] w fun e w' => e = .returned (.tuple #[.agg (arrOf (quoW x d 4) 4), .int .u64 (remJ x d 4 4)]) ∧ Below w.heap.size w w' := by
  have sx : (arrOf x 4).size = 4 := arrOf_size x 4
  have gx := fun i h => arrOf_get x 4 i h
  have hd0 : (d == 0) = false := by simp; omega
  generalize arrOf x 4 = ax at *
  go_enter Tryd.func92, Tryd.ntmps92
  go_wp2
  go_loopw [7, 8, 19] (fun c i u19 wr => ∃ (k m : Nat) (ss : Array Value), k ≤ 4 ∧ i = .int .i64 ((k : Int) - 1) ∧ c = .int .u64 (remJ x d 4 (4 - k)) ∧ ss.size = 4 ∧ (∀ j h, ss[j]'h = Value.int .u64 (if k ≤ j then quoW x d 4 j else 0)) ∧ wr = ((((w.alloc (.cells ax 23)).alloc (.cells #[.int .u64 0, .int .u64 0, .int .u64 0, .int .u64 0] 23)).alloc (.cells ss 23)).drewN m)) (fun _ i _ _ => (intOf i + 1).toNat)
  case atStart => exact ⟨4, 0, _, Nat.le_refl _, rfl, rfl, rfl, by intro j h; have h' : j < 4 := h; match j, h' with | 0, _ => rfl | 1, _ => rfl | 2, _ => rfl | 3, _ => rfl, rfl⟩
  case round =>
    obtain ⟨k, m, ss, hk, rfl, rfl, hsz, hss, rfl⟩ := hrel
    by_cases h0 : k = 0
    · subst h0
      have hss' : ∀ j h, ss[j]'h = Value.int .u64 (quoW x d 4 j) := by
        intro j h; rw [hss j h, if_pos (by omega)]
      clear hss H
      go_wp2
      exact bodyPost_ret (v := .tuple #[.agg (arrOf (quoW x d 4) 4), .int .u64 (remJ x d 4 4)]) (by simp [results, Tryd.results92, go_sem]; rfl) rfl ⟨rfl, below_alloc3 _ _ _ _ _⟩
    · obtain ⟨j, rfl⟩ : ∃ j, k = j + 1 := ⟨k - 1, by omega⟩
      have hj8 : (j : Int) < 4 := by omega
      have ej : ((j + 1 : Nat) : Int) - 1 = j := by omega
      have ej2 : 4 - (j + 1) = 4 - 1 - j := by omega
      rw [ej, ej2]
      have hjs : j < ss.size := by omega
      have hcx : ax[j]? = some (.int .u64 (x j)) := by rw [Array.getElem?_eq_getElem (by omega), gx j (by omega)]
      have HJ := H j (by omega)
      have hsj : ss[j]? = some (.int .u64 0) := by rw [Array.getElem?_eq_getElem hjs, hss j hjs, if_neg (by omega)]
      have hrel1 := set_prev (k := j) (f := quoW x d 4) hss
      have HR : Hid (∀ (i : Nat) (h : i < (ss.setIfInBounds j (.int .u64 (quoW x d 4 j))).size), (ss.setIfInBounds j (.int .u64 (quoW x d 4 j)))[i]'h = Value.int .u64 (if j ≤ i then quoW x d 4 i else 0)) := hrel1
      clear hss H hrel1 ej ej2
      go_wp2_with (go_at_call 81; refine (HJ _).mono ?_; rintro e w' ⟨rfl, m', rfl⟩)
      go_roundw
      case rel => exact ⟨j, m + m', ss.setIfInBounds j (.int .u64 (quoW x d 4 j)), by omega, by go_num, rfl, by simp [hsz], HR.out, rfl⟩
      case measure => simp [intOf]
/-- a product by one word -/
theorem mul4 (A n : Nat) (w : World) (hA : A < 2 ^ 256) (hn : n < 18446744073709551616) :
    Calls Tryd.prog 42 #[A4 A, .int .u64 (n : Int)] w fun e w' => e = .returned (.tuple #[A4 (A * n), .int .u64 ((A * n / 2 ^ 256 : Nat) : Int)]) ∧ Below w.heap.size w w' := by
  refine (limMul4 (W4 A) n w (W4_words A) (by omega)).mono ?_
  rintro e w' ⟨rfl, hb⟩
  refine ⟨?_, hb⟩
  have hs := mul_val (W4 A) (n : Int) 4
  have hv := val_bd (mulP_words (W4 A) (n : Int)) 4
  have hc := mulC_word (W4_words A) (n := (n : Int)) (by omega) 4
  rw [W4_val4 hA] at hs
  have e4 : (18446744073709551616 : Int) ^ 4 = 115792089237316195423570985008687907853269984665640564039457584007913129639936 := by decide
  have e4n : (2 : Nat) ^ 256 = 115792089237316195423570985008687907853269984665640564039457584007913129639936 := by decide
  have hcast : (A : Int) * (n : Int) = ((A * n : Nat) : Int) := by simp
  rw [e4, hcast] at hs
  rw [e4] at hv
  rw [e4n]
  generalize A * n = P at *
  rw [arr_A4 (mulP_words _ _) (A := P) (by rw [e4n]; omega)]
  have : mulC (W4 A) (n : Int) 4 = ((P / 115792089237316195423570985008687907853269984665640564039457584007913129639936 : Nat) : Int) := by omega
  rw [this]
/-- a quotient by one word, and the rest -/
theorem div4 (A d : Nat) (w : World) (hA : A < 2 ^ 256) (hd : 0 < d) (hd' : d < 18446744073709551616) :
    Calls Tryd.prog 92 #[A4 A, .int .u64 (d : Int)] w fun e w' => e = .returned (.tuple #[A4 (A / d), .int .u64 ((A % d : Nat) : Int)]) ∧ Below w.heap.size w w' := by
  have hdi : 0 < (d : Int) ∧ (d : Int) ≤ 18446744073709551615 := by omega
  refine (limDiv4 (W4 A) d w hdi (fun j hj w => limDiv_ok (W4 A) d 4 (W4_words A) hdi j hj w)).mono ?_
  rintro e w' ⟨rfl, hb⟩
  refine ⟨?_, hb⟩
  have hs := div_val (W4 A) (d : Int) 4 4 (Nat.le_refl _)
  have hr := remJ_bd (W4 A) (d : Int) 4 4 hdi.1
  obtain ⟨Q, hQ⟩ : ∃ Q, val (quoW (W4 A) (d : Int) 4) 4 = Q := ⟨_, rfl⟩
  rw [W4_val4 hA, hQ] at hs
  simp only [Nat.sub_self, val, Int.zero_add, Int.pow_zero, Int.mul_one, Int.sub_zero] at hs
  generalize hq : remJ (W4 A) (d : Int) 4 4 = r at *
  have h1 : (A : Int) % (d : Int) = r := by
    rw [← hs, Int.add_mul_emod_self_left, Int.emod_eq_of_lt hr.1 hr.2]
  have h2 : val (quoW (W4 A) (d : Int) 4) 4 = (A : Int) / (d : Int) := by
    rw [hQ]
    have : (A : Int) / (d : Int) = r / (d : Int) + Q := by
      rw [← Int.add_mul_ediv_left r _ (show (d : Int) ≠ 0 by omega)]
      exact congrArg (· / (d : Int)) hs.symm
    rw [this, Int.ediv_eq_zero_of_lt hr.1 hr.2, Int.zero_add]
  have hlt : A / d < 2 ^ 256 := Nat.lt_of_le_of_lt (Nat.div_le_self _ _) hA
  rw [arr_A4 (quoW_words (W4_words A) hdi.1 4) (A := A / d) (by rw [h2, Nat.mod_eq_of_lt hlt]; simp), ← h1]
  simp
end Go.Proofs.YtjjaamdgochilaaDoor

namespace Go.Proofs.YtjjaamdgochilaaDoor
open Go.RowKit
section
attribute [local go_sem] setCell_drewN alloc_drewN
theorem below_two (w : World) (o1 o2 : Obj) (m : Nat) : Below w.heap.size w ((((w.alloc o1).alloc o2).drewN m)) := by
  have h := ((Below.refl w.heap.size w).alloc (Nat.le_refl _) o1).alloc (by simp) o2
  exact ⟨h.os, h.tape, h.output, h.size, h.block⟩
theorem below_dr {b : Nat} {w w' : World} (h : Below b w w') (m : Nat) : Below b w (w'.drewN m) := ⟨h.os, h.tape, h.output, h.size, h.block⟩
set_option maxHeartbeats 1000000 in
theorem limCmp4 (x y : Nat → Int) (w : World) (hx : Words x) (hy : Words y) :
    Calls Tryd.prog 70 #[.agg (arrOf x 4), .agg (arrOf y 4)] w fun e w' => e = .returned (.int .i64 (cmpL x y 4)) ∧ Below w.heap.size w w' := by
  have sx : (arrOf x 4).size = 4 := arrOf_size x 4
  have sy : (arrOf y 4).size = 4 := arrOf_size y 4
  have gx := fun i h => arrOf_get? x 4 i h
  have gy := fun i h => arrOf_get? y 4 i h
  have hx0 := arrOf_get x 4
  have hy0 := arrOf_get y 4
  generalize arrOf x 4 = ax at *
  generalize arrOf y 4 = ay at *
  go_enter Tryd.func70, Tryd.ntmps70
  go_wp2
  go_loopw [5] (fun t wr => ∃ k m : Nat, k ≤ 4 ∧ cmpL x y k = cmpL x y 4 ∧ t = .int .i64 ((k : Int) - 1) ∧ wr = (((w.alloc (.cells ax 23)).alloc (.cells ay 23)).drewN m)) (fun t _ => (intOf t + 1).toNat)
  case atStart => exact ⟨4, 0, Nat.le_refl _, rfl, rfl, rfl⟩
  case round =>
    obtain ⟨k, m, hk, hs, rfl, rfl⟩ := hrel
    by_cases h0 : k = 0
    · subst h0
      have HS : Hid (cmpL x y 4 = 0) := hs.symm
      clear hs
      go_wp2
      go_ret
      exact ⟨ret_int HS.out.symm, below_two _ _ _ _⟩
    · obtain ⟨j, rfl⟩ : ∃ j, k = j + 1 := ⟨k - 1, by omega⟩
      have ej : ((j + 1 : Nat) : Int) - 1 = j := by omega
      have hj8 : (j : Int) < 4 := by omega
      rw [ej]
      have hcx := gx j (by omega)
      have hcy := gy j (by omega)
      have hgx := hx0 j
      have hgy := hy0 j
      have HS : Hid ((if x j < y j then -1 else if y j < x j then 1 else cmpL x y j) = cmpL x y 4) := hs
      have hkm : j ≤ 4 := by omega
      clear hs ej hk gx gy hx0 hy0 hx hy
      by_cases hlt : x j < y j
      · have HR : Hid (cmpL x y 4 = -1) := by rw [← HS.out, if_pos hlt]; rfl
        clear HS
        go_wp2
        go_quiet (fail)
        go_wp2
        go_ret
        exact ⟨ret_int HR.out.symm, below_dr (below_two _ _ _ _) _⟩
      · by_cases hgt : y j < x j
        · have HR : Hid (cmpL x y 4 = 1) := by rw [← HS.out, if_neg hlt, if_pos hgt]; rfl
          clear HS
          go_wp2
          go_quiet (fail)
          go_wp2
          go_quiet (fail)
          go_wp2
          go_ret
          exact ⟨ret_int HR.out.symm, below_dr (below_dr (below_two _ _ _ _) _) _⟩
        · have HR : Hid (cmpL x y j = cmpL x y 4) := by rw [← HS.out, if_neg hlt, if_neg hgt]; rfl
          clear HS
          go_wp2
          go_quiet (fail)
          go_wp2
          go_quiet (fail)
          go_wp2
          go_roundw
          case rel => exact ⟨j, _, hkm, HR.out, by go_num, rfl⟩
          case measure => simp [intOf]
end
theorem cmp4 (A B : Nat) (w : World) (hA : A < 2 ^ 256) (hB : B < 2 ^ 256) :
    Calls Tryd.prog 70 #[A4 A, A4 B] w fun r w' => r = .returned (.int .i64 (sgn (A : Int) (B : Int))) ∧ Below w.heap.size w w' := by
  have h := limCmp4 (W4 A) (W4 B) w (W4_words A) (W4_words B)
  rw [cmpL_val (W4_words A) (W4_words B), W4_val4 hA, W4_val4 hB] at h
  exact h
/-- the lowest bits of a word -/
theorem dlow_v (x : Int) (c : Nat) (hx : 0 ≤ x ∧ x ≤ 18446744073709551615) (hc : c ≤ 62) (w : World) :
    Calls Tryd.prog 69 #[.int .u64 x, .int .i64 (c : Int)] w fun r w' => r = .returned (.int .u64 (x % 2 ^ c)) ∧ w = w' := by
  have hm := and_mask (y := x) (r := c) hx (by omega)
  have hp : (1 : Int) ≤ 2 ^ c ∧ (2 : Int) ^ c ≤ 4611686018427387904 := by
    have a : (2 : Nat) ^ 0 ≤ 2 ^ c := Nat.pow_le_pow_right (by decide) (by omega)
    have b : (2 : Nat) ^ c ≤ 2 ^ 62 := Nat.pow_le_pow_right (by decide) hc
    have e : ((2 : Int) ^ c) = ((2 ^ c : Nat) : Int) := by simp
    rw [e]; omega
  go_enter Tryd.func69, Tryd.ntmps69
  go_wp2
  go_ret
  exact ⟨rfl, rfl⟩
/-- a layout's value -/
abbrev LD (dn : Bool) (g t bl : Int) (wo co pa : Nat) (le mo : Int) : Value := .agg #[.bool dn, .int .i64 g, .int .i64 t, .int .i64 bl, .int .u64 (W4 wo 0), .int .u64 (W4 wo 1), .int .u64 (W4 wo 2), .int .u64 (W4 wo 3), .int .u64 (W4 co 0), .int .u64 (W4 co 1), .int .u64 (W4 co 2), .int .u64 (W4 co 3), .int .u64 (W4 pa 0), .int .u64 (W4 pa 1), .int .u64 (W4 pa 2), .int .u64 (W4 pa 3), .int .i64 le, .int .i64 mo]
attribute [local irreducible] W4
section
variable (dn : Bool) (g t bl : Int) (wo co pa : Nat) (le mo : Int) (w : World)
theorem kind_v (x V : Int) (n : Nat) (hx : 0 ≤ x ∧ x ≤ 18446744073709551615) (hg : g - 5 = (n : Int)) (hg0 : 5 ≤ g) (hg1 : g ≤ 60) (hV : x / 2 ^ n = V) :
    Calls Tryd.prog 37 #[LD dn g t bl wo co pa le mo, .int .u64 x] w fun r w' => r = .returned (.int .u64 V) ∧ Below w.heap.size w w' := by
  go_enter Tryd.func37, Tryd.ntmps37
  go_wp2
  go_ret
  exact ⟨rfl, bgo⟩
theorem signals_v (x V : Int) (n : Nat) (hx : 0 ≤ x ∧ x ≤ 18446744073709551615) (hg : g - 5 - 1 = (n : Int)) (hg0 : 6 ≤ g) (hg1 : g ≤ 60) (hV : bits .and .u64 (x / 2 ^ n) 1 = V) :
    Calls Tryd.prog 38 #[LD dn g t bl wo co pa le mo, .int .u64 x] w fun r w' => r = .returned (.bool (V == 1)) ∧ Below w.heap.size w w' := by
  go_enter Tryd.func38, Tryd.ntmps38
  go_wp2
  go_ret
  exact ⟨rfl, bgo⟩
set_option maxHeartbeats 400000 in
theorem special_v (k R : Int) (s : Bool) (n : Nat) (hk0 : 0 ≤ k) (hk1 : k ≤ 31) (hg : g - 5 - 1 = (n : Int)) (hg0 : 6 ≤ g) (hg1 : g ≤ 30) (H : Int) (hH : (2 : Int) ^ n = H) (hH0 : 1 ≤ H) (hH1 : H ≤ 16777216) (ho : bits .or .u64 (k * 2) 1 = k * 2 + 1) (hR : (k * 2 + if s then 1 else 0) * H = R) (hR1 : R ≤ 4611686018427387904) :
    Calls Tryd.prog 77 #[LD dn g t bl wo co pa le mo, .int .u64 k, .bool s] w fun r w' => r = .returned (.int .u64 R) ∧ Below w.heap.size w w' := by
  cases s
  · simp only [Bool.false_eq_true, if_false, Int.add_zero] at hR
    have hR0 : 0 ≤ R := by rw [← hR]; exact Int.mul_nonneg (by omega) (by omega)
    go_enter Tryd.func77, Tryd.ntmps77
    go_wp2
    go_ret
    exact ⟨rfl, bgo⟩
  · simp only [if_true] at hR
    have hR0 : 0 ≤ R := by rw [← hR]; exact Int.mul_nonneg (by omega) (by omega)
    go_enter Tryd.func77, Tryd.ntmps77
    go_wp2
    go_ret
    exact ⟨rfl, bgo⟩
end
end Go.Proofs.YtjjaamdgochilaaDoor

namespace Go.Proofs.YtjjaamdgochilaaDoor
open Go.RowKit
theorem dlowb_v (x : Int) (c : Nat) (hx : 0 ≤ x ∧ x ≤ 18446744073709551615) (hc : c ≤ 62) (w : World) :
    Calls Tryd.prog 69 #[.int .u64 x, .int .i64 (c : Int)] w fun r w' => r = .returned (.int .u64 (x % 2 ^ c)) ∧ Below w.heap.size w w' := by
  refine (dlow_v x c hx hc w).mono ?_
  rintro r w' ⟨rfl, rfl⟩
  exact ⟨rfl, Below.refl _ _⟩
attribute [local irreducible] W4
section
variable (dn : Bool) (g t : Int) (wo co pa : Nat) (le mo : Int) (w : World) (x A M F FS X R L : Int) (b m : Nat)
  (hx : 0 ≤ x ∧ x ≤ 1073741824) (hb : b ≤ 30) (hg0 : 6 ≤ g) (hg1 : g ≤ 30) (hm : g - 2 = (m : Int)) (hA : x / 2 ^ b = A) (hA0 : 0 ≤ A) (hA1 : A ≤ 1073741824) (hM : x / 2 ^ m = M)
  (hF0 : 0 ≤ F) (hF1 : F ≤ 1073741824) (hFS : F * 2 ^ b = FS) (hS0 : 0 ≤ FS) (hS1 : FS ≤ 1152921504606846976)
  (cl : ∀ W, Calls Tryd.prog 69 #[.int .u64 x, .int .i64 (b : Int)] W fun r w' => r = .returned (.int .u64 X) ∧ Below W.heap.size W w')
  (ho : bits .or .u64 FS X = R)
include hx hb hg0 hg1 hm hA hA0 hA1 hM hF0 hF1 hFS hS0 hS1 cl ho
set_option maxHeartbeats 1000000 in
theorem part_s (hM3 : (M == 3) = false) (hF : A / 8 = F)
    (c3 : ∀ W, Calls Tryd.prog 69 #[.int .u64 A, .int .i64 3] W fun r w' => r = .returned (.int .u64 L) ∧ W = w') :
    Calls Tryd.prog 41 #[LD dn g t (b : Int) wo co pa le mo, .int .u64 x] w fun r w' => r = .returned (.tuple #[.int .u64 R, .int .u64 L]) ∧ Below w.heap.size w w' := by
  have hb0 : (0 : Int) ≤ (b : Int) := by omega
  have hb1 : (b : Int) ≤ 30 := by omega
  go_enter Tryd.func41, Tryd.ntmps41
  go_wp2_with (go_at_call 69; refine (c3 _).mono ?_; rintro r w1 ⟨rfl, rfl⟩)
  refine wp_tail 11 (by kernel_rfl) (by kernel_rfl) (by kernel_rfl) (fun _ _ d _ _ h => by cases d <;> exact h) fun hne hcell => ?_
  simp only [List.take_succ_cons, List.take_zero, List.drop_succ_cons, List.drop_zero]
  repeat go_big_quiet_step (fail)
  go_big_quiet_step ((go_at_call 69; exact calls_wd _ bk_next (cl _)))
  repeat go_big_quiet_step (fail)
  refine wpQuiet_nil fun w2 hb2 => ?_
  obtain ⟨hc2, hf2⟩ := bcell hb2; have hz2_0 : w.heap.size < w2.heap.size := lt_below hb2 ltg; have hl2_0 := Nat.le_of_lt hz2_0; have hA2 := bnext (w0 := w) bgo hb2; have hs2 := hA2.size; clear hb2
  go_wp2
  exact bodyPost_ret (by simp only [results, Tryd.results41]; go_simp) rfl ⟨rfl, bgo⟩
set_option maxHeartbeats 1000000 in
theorem part_g (A' L0 : Int) (k : Nat) (hM3 : (M == 3) = true) (hk : (m : Int) - (b : Int) = (k : Int)) (hA'0 : 0 ≤ A') (hA'1 : A' ≤ 1073741824) (hF : A' / 2 = F) (hL0 : 0 ≤ L0) (hL1 : L0 ≤ 1) (hL : 8 + L0 = L)
    (c3 : ∀ W, Calls Tryd.prog 69 #[.int .u64 A, .int .i64 (k : Int)] W fun r w' => r = .returned (.int .u64 A') ∧ W = w')
    (c4 : ∀ W, Calls Tryd.prog 69 #[.int .u64 A', .int .i64 1] W fun r w' => r = .returned (.int .u64 L0) ∧ W = w') :
    Calls Tryd.prog 41 #[LD dn g t (b : Int) wo co pa le mo, .int .u64 x] w fun r w' => r = .returned (.tuple #[.int .u64 R, .int .u64 L]) ∧ Below w.heap.size w w' := by
  have hb0 : (0 : Int) ≤ (b : Int) := by omega
  have hb1 : (b : Int) ≤ 30 := by omega
  go_enter Tryd.func41, Tryd.ntmps41
  go_wp2_with (go_at_call 69; first | (refine (c3 _).mono ?_; rintro r w1 ⟨rfl, rfl⟩; clear c3) | (refine (c4 _).mono ?_; rintro r w1 ⟨rfl, rfl⟩; clear c4))
  refine wp_tail 11 (by kernel_rfl) (by kernel_rfl) (by kernel_rfl) (fun _ _ d _ _ h => by cases d <;> exact h) fun hne hcell => ?_
  simp only [List.take_succ_cons, List.take_zero, List.drop_succ_cons, List.drop_zero]
  repeat go_big_quiet_step (fail)
  go_big_quiet_step ((go_at_call 69; exact calls_wd _ bk_next (cl _)))
  repeat go_big_quiet_step (fail)
  refine wpQuiet_nil fun w2 hb2 => ?_
  obtain ⟨hc2, hf2⟩ := bcell hb2; have hz2_0 : w.heap.size < w2.heap.size := lt_below hb2 ltg; have hl2_0 := Nat.le_of_lt hz2_0; have hA2 := bnext (w0 := w) bgo hb2; have hs2 := hA2.size; clear hb2
  go_wp2
  exact bodyPost_ret (by simp only [results, Tryd.results41]; go_simp) rfl ⟨rfl, bgo⟩
end
section
variable (dn : Bool) (g t : Int) (wo co pa : Nat) (le mo : Int) (w : World) (E a A Y YS X R : Int) (b : Nat)
  (hE : 0 ≤ E ∧ E ≤ 1073741824) (ha : 0 ≤ a ∧ a ≤ 9) (hb : b ≤ 30) (hg0 : 6 ≤ g) (hg1 : g ≤ 30) (hA : E / 2 ^ b = A) (hA0 : 0 ≤ A) (hA1 : A ≤ 1073741824)
  (hY0 : 0 ≤ Y) (hY1 : Y ≤ 1073741824) (hYS : Y * 2 ^ b = YS) (hS0 : 0 ≤ YS) (hS1 : YS ≤ 1152921504606846976)
  (cl : ∀ W, Calls Tryd.prog 69 #[.int .u64 E, .int .i64 (b : Int)] W fun r w' => r = .returned (.int .u64 X) ∧ Below W.heap.size W w')
  (ho : bits .or .u64 YS X = R)
include hE ha hb hg0 hg1 hA hA0 hA1 hY0 hY1 hYS hS0 hS1 cl ho
set_option maxHeartbeats 1000000 in
theorem unite_s (h8 : ¬ 8 ≤ a) (hY : bits .or .u64 (A * 8) a = Y) :
    Calls Tryd.prog 75 #[LD dn g t (b : Int) wo co pa le mo, .int .u64 E, .int .u64 a] w fun r w' => r = .returned (.int .u64 R) ∧ Below w.heap.size w w' := by
  have hb0 : (0 : Int) ≤ (b : Int) := by omega
  have hb1 : (b : Int) ≤ 30 := by omega
  go_enter Tryd.func75, Tryd.ntmps75
  go_wp2
  refine wp_tail 9 (by kernel_rfl) (by kernel_rfl) (by kernel_rfl) (fun _ _ d _ _ h => by cases d <;> exact h) fun hne hcell => ?_
  simp only [List.take_succ_cons, List.take_zero, List.drop_succ_cons, List.drop_zero]
  repeat go_big_quiet_step (fail)
  go_big_quiet_step ((go_at_call 69; exact calls_wd _ bk_next (cl _)))
  repeat go_big_quiet_step (fail)
  refine wpQuiet_nil fun w2 hb2 => ?_
  obtain ⟨hc2, hf2⟩ := bcell hb2; have hz2_0 : w.heap.size < w2.heap.size := lt_below hb2 ltg; have hl2_0 := Nat.le_of_lt hz2_0; have hA2 := bnext (w0 := w) bgo hb2; have hs2 := hA2.size; clear hb2
  go_wp2
  exact bodyPost_ret (by simp only [results, Tryd.results75]; go_simp) rfl ⟨rfl, bgo⟩
set_option maxHeartbeats 1000000 in
theorem unite_g (k : Nat) (H U L0 : Int) (h8 : 8 ≤ a) (hk : g - 2 - (b : Int) = (k : Int)) (hH : (2 : Int) ^ k = H) (hH0 : 1 ≤ H) (hH1 : H ≤ 1073741824) (hU : bits .or .u64 (3 * H) (A * 2) = U) (hY : bits .or .u64 U L0 = Y)
    (c1 : ∀ W, Calls Tryd.prog 69 #[.int .u64 a, .int .i64 1] W fun r w' => r = .returned (.int .u64 L0) ∧ Below W.heap.size W w') :
    Calls Tryd.prog 75 #[LD dn g t (b : Int) wo co pa le mo, .int .u64 E, .int .u64 a] w fun r w' => r = .returned (.int .u64 R) ∧ Below w.heap.size w w' := by
  have hb0 : (0 : Int) ≤ (b : Int) := by omega
  have hb1 : (b : Int) ≤ 30 := by omega
  have hk0 : 0 ≤ g - 2 - (b : Int) := by omega
  go_enter Tryd.func75, Tryd.ntmps75
  go_wp2
  refine wp_tail 13 (by kernel_rfl) (by kernel_rfl) (by kernel_rfl) (fun _ _ d _ _ h => by cases d <;> exact h) fun hne hcell => ?_
  simp only [List.take_succ_cons, List.take_zero, List.drop_succ_cons, List.drop_zero]
  repeat go_big_quiet_step (fail)
  go_big_quiet_step ((go_at_call 69; exact calls_wd _ bk_next (c1 _)))
  repeat go_big_quiet_step (fail)
  refine wpQuiet_nil fun w1 hb1' => ?_
  have hb1 := hb1'
  obtain ⟨hc1, hf1⟩ := bcell hb1; have hz1_0 : w.heap.size < w1.heap.size := lt_below hb1 ltg; have hl1_0 := Nat.le_of_lt hz1_0; have hA1 := bnext (w0 := w) bgo hb1; have hs1 := hA1.size; clear hb1
  go_wp2
  refine wp_tail 9 (by kernel_rfl) (by kernel_rfl) (by kernel_rfl) (fun _ _ d _ _ h => by cases d <;> exact h) fun hne hcell => ?_
  simp only [List.take_succ_cons, List.take_zero, List.drop_succ_cons, List.drop_zero]
  repeat go_big_quiet_step (fail)
  go_big_quiet_step ((go_at_call 69; exact calls_wd _ bk_next (cl _)))
  repeat go_big_quiet_step (fail)
  refine wpQuiet_nil fun w2 hb2 => ?_
  obtain ⟨hc2, hf2⟩ := bcell hb2; have hz2_0 : w.heap.size < w2.heap.size := lt_below hb2 ltg; have hl2_0 := Nat.le_of_lt hz2_0; have hA2 := bnext (w0 := w) bgo hb2; have hs2 := hA2.size; clear hb2
  go_wp2
  exact bodyPost_ret (by simp only [results, Tryd.results75]; go_simp) rfl ⟨rfl, bgo⟩
end
end Go.Proofs.YtjjaamdgochilaaDoor
