/-
  Texts that the proof leans on.
-/
import Derived.Test.YtgknbdehlmlipabGreatDoorJ31
import Derived.Test.YtgknbdehlmlipabGreatDoorJ26
import Derived.Test.YtgknbdehlmlipabGreatDoorJ29
import Derived.Deep.Cut
import Derived.Deep.CutRange
import Derived.Test.YtgknbdehlmlipabGreatDoorJ27
import Derived.Test.YtgknbdehlmlipabGreatDoorJ12
import Derived.Test.YtgknbdehlmlipabGreatDoorJ34
import Derived.Test.YtgknbdehlmlipabGreatDoorJ22
import Derived.Test.YtgknbdehlmlipabGreatDoorJ17
import Derived.Test.YtgknbdehlmlipabGreatDoorJ28
import Derived.Test.YtgknbdehlmlipabGreatDoorJ33
set_option linter.unusedVariables false
set_option linter.unusedSectionVars false
set_option linter.unusedSimpArgs false
set_option maxRecDepth 20000
namespace Go.Proofs.YtgknbdehlmlipabGreatDoor
open Go.RowKit
/-- Unpack's answer -/
def vUD (n : Int) (B : Nat) : Dat := if goodD n B then vM (fD n) B else ⟨0, false, false, 0, 0⟩
def vUC (n : Int) (B : Nat) : Bool := decide (goodD n B ∧ vP (fD n) (vM (fD n) B) = B)
def vUE (n : Int) (B : Nat) : Int := if goodD n B then 0 else 1
theorem vUD_256 (n : Int) (B : Nat) : (vUD n B).k < 2 ^ 256 := by
  unfold vUD
  split
  · exact vM_256 (fD_ok n) B
  · decide
theorem eq_words {X Y : Nat} (hX : X < 2 ^ 256) (hY : Y < 2 ^ 256) : decide (W4 X 0 = W4 Y 0 ∧ W4 X 1 = W4 Y 1 ∧ W4 X 2 = W4 Y 2 ∧ W4 X 3 = W4 Y 3) = decide (X = Y) := by
  refine decide_eq_decide.2 ⟨fun ⟨h0, h1, h2, h3⟩ => A4_inj hX hY fun i hi => ?_, fun h => by rw [h]; exact ⟨rfl, rfl, rfl, rfl⟩⟩
  have : i = 0 ∨ i = 1 ∨ i = 2 ∨ i = 3 := by omega
  rcases this with rfl | rfl | rfl | rfl
  · exact h0
  · exact h1
  · exact h2
  · exact h3
attribute [local irreducible] W4
theorem zero_v : (Dat.mk 0 false false 0 0).v = .agg #[.int .i64 0, .bool false, .bool false, .int .i64 0, .int .u64 0, .int .u64 0, .int .u64 0, .int .u64 0] := by unfold Dat.v DV; simp only [W4_zero]
end Go.Proofs.YtgknbdehlmlipabGreatDoor

namespace Go.Proofs.YtgknbdehlmlipabGreatDoor
open Go.RowKit
theorem sgn_times {c : Int} (a b : Int) (hc : 0 < c) : sgn (a * c) (b * c) = sgn a b := by
  unfold sgn
  have h1 : (a * c < b * c) ↔ a < b := Int.mul_lt_mul_right hc
  have h2 : (b * c < a * c) ↔ b < a := Int.mul_lt_mul_right hc
  simp only [h1, h2]
theorem sgn_minus (a b : Int) : sgn (-a) (-b) = - sgn a b := by
  unfold sgn
  split <;> split <;> (try split) <;> omega
theorem sgn_nat {a b : Nat} (c : Nat) (hc : 0 < c) : sgn ((a * c : Nat) : Int) ((b * c : Nat) : Int) = sgn (a : Int) (b : Int) := by
  rw [Int.natCast_mul, Int.natCast_mul]
  exact sgn_times _ _ (by omega)
/-- on which side of 0 a datum lies -/
def oS (d : Dat) : Int := if d.c = 1 ∧ d.k = 0 then 0 else if d.s then -1 else 1
def oN (d : Dat) (x : Nat) : Nat := d.k * x ^ d.x.toNat
def oD (d : Dat) (x : Nat) : Nat := 1 * x ^ (-d.x).toNat
/-- two data by value -/
def oV (a : Dat) (x : Nat) (b : Dat) (y : Nat) : Int :=
  if oS a ≠ oS b ∨ oS a = 0 then sgn (oS a) (oS b)
  else if a.c = 2 ∨ b.c = 2 then oS a * sgn a.c b.c
  else oS a * sgn ((oN a x * oD b y : Nat) : Int) ((oN b y * oD a x : Nat) : Int)
theorem oV_a {a b : Dat} {x y : Nat} (h : oS a ≠ oS b ∨ oS a = 0) : oV a x b y = sgn (oS a) (oS b) := if_pos h
theorem oV_b {a b : Dat} {x y : Nat} (h : oS a = oS b) (h0 : oS a ≠ 0) (h2 : a.c = 2 ∨ b.c = 2) : oV a x b y = oS a * sgn a.c b.c := by
  unfold oV
  rw [if_neg (show ¬ (oS a ≠ oS b ∨ oS a = 0) by omega), if_pos h2]
theorem oV_c {a b : Dat} {x y : Nat} (h : oS a = oS b) (h0 : oS a ≠ 0) (h2 : ¬ (a.c = 2 ∨ b.c = 2)) : oV a x b y = oS a * sgn ((oN a x * oD b y : Nat) : Int) ((oN b y * oD a x : Nat) : Int) := by
  unfold oV
  rw [if_neg (show ¬ (oS a ≠ oS b ∨ oS a = 0) by omega), if_neg h2]
theorem oV_swap (a : Dat) (x : Nat) (b : Dat) (y : Nat) : oV b y a x = - oV a x b y := by
  by_cases h : oS a = oS b
  · by_cases h0 : oS b = 0
    · rw [oV_a (Or.inr h0), oV_a (Or.inr (h.trans h0)), h, h0, sgn_self]
      rfl
    · have h0' : oS a ≠ 0 := fun q => h0 (h.symm.trans q)
      by_cases h2 : a.c = 2 ∨ b.c = 2
      · rw [oV_b h h0' h2, oV_b h.symm h0 h2.symm, h, sgn_neg a.c b.c, Int.mul_neg]
      · rw [oV_c h h0' h2, oV_c h.symm h0 (fun q => h2 q.symm), h, sgn_neg ((oN a x * oD b y : Nat) : Int), Int.mul_neg]
  · rw [oV_a (Or.inl h), oV_a (Or.inl (fun q => h q.symm)), sgn_neg (oS a)]
/-- what a pattern means, in any format -/
def mD (n : Int) (B : Nat) : Dat := if binN n then unD n B else vUD n B
def mX (n : Int) : Nat := if binN n then 2 else 10
def mE (n : Int) (B : Nat) : Int := if binN n then unE n B else vUE n B
/-- Mixed, Compare -/
def oMc (f : Int) (A : Nat) (g : Int) (B : Nat) : Int := if mE f A ≠ 0 ∨ mE g B ≠ 0 then 0 else if (mD f A).c = 3 ∨ (mD g B).c = 3 then 0 else oV (mD f A) (mX f) (mD g B) (mX g)
def oMo (f : Int) (A : Nat) (g : Int) (B : Nat) : Bool := if mE f A ≠ 0 ∨ mE g B ≠ 0 then false else if (mD f A).c = 3 ∨ (mD g B).c = 3 then false else true
def oME (f : Int) (A : Nat) (g : Int) (B : Nat) : Int := if mE f A ≠ 0 ∨ mE g B ≠ 0 then 1 else 0
/-- a datum's place: its sign, NaNs at the ends -/
def oR (d : Dat) : Int := if d.s then -(if d.c = 3 then (if d.g then 2 else 3) else 1) else (if d.c = 3 then (if d.g then 2 else 3) else 1)
def oG (d : Dat) : Int := if d.s then -1 else 1
/-- the order of data -/
def oT (a b : Dat) (x : Nat) : Int :=
  if oR a ≠ oR b then sgn (oR a) (oR b)
  else if a.c = 3 then oG a * sgn (a.k : Int) (b.k : Int)
  else if oV a x b x = 0 then oG a * sgn a.x b.x else oV a x b x
def oTc (n : Int) (A B : Nat) : Int := if mE n A ≠ 0 ∨ mE n B ≠ 0 then 0 else oT (mD n A) (mD n B) (mX n)
def oTE (n : Int) (A B : Nat) : Int := if mE n A ≠ 0 ∨ mE n B ≠ 0 then 1 else 0
/-- data of one format, whose exponents are at least l -/
def oK (l : Int) (d : Dat) : Prop := (d.c = 1 ∧ d.g = false ∧ l ≤ d.x) ∨ (d.c = 2 ∧ d.g = false ∧ d.x = 0 ∧ d.k = 0) ∨ (d.c = 3 ∧ d.x = 0)
/-- a finite datum's coefficient at the least exponent -/
def oI (l : Int) (x : Nat) (d : Dat) : Nat := d.k * x ^ (d.x - l).toNat
theorem oI_cmp {l : Int} {x : Nat} (hx : 0 < x) {a b : Dat} (ha : l ≤ a.x) (hb : l ≤ b.x) :
    sgn ((oN a x * oD b x : Nat) : Int) ((oN b x * oD a x : Nat) : Int) = sgn (oI l x a : Int) (oI l x b : Int) := by
  unfold oN oD oI
  rw [Nat.one_mul, Nat.one_mul, Nat.mul_assoc, Nat.mul_assoc, ← Nat.pow_add, ← Nat.pow_add]
  rcases Int.le_total 0 (l + (-a.x).toNat + (-b.x).toNat) with h | h
  · obtain ⟨p, hp⟩ : ∃ p : Nat, (p : Int) = l + (-a.x).toNat + (-b.x).toNat := ⟨(l + (-a.x).toNat + (-b.x).toNat).toNat, by omega⟩
    rw [show a.x.toNat + (-b.x).toNat = (a.x - l).toNat + p by omega, show b.x.toNat + (-a.x).toNat = (b.x - l).toNat + p by omega, Nat.pow_add, Nat.pow_add, ← Nat.mul_assoc, ← Nat.mul_assoc]
    exact sgn_nat _ (Nat.pow_pos hx)
  · obtain ⟨p, hp⟩ : ∃ p : Nat, (p : Int) = -(l + (-a.x).toNat + (-b.x).toNat) := ⟨(-(l + (-a.x).toNat + (-b.x).toNat)).toNat, by omega⟩
    rw [show (a.x - l).toNat = a.x.toNat + (-b.x).toNat + p by omega, show (b.x - l).toNat = b.x.toNat + (-a.x).toNat + p by omega, Nat.pow_add x (a.x.toNat + (-b.x).toNat), Nat.pow_add x (b.x.toNat + (-a.x).toNat), ← Nat.mul_assoc, ← Nat.mul_assoc]
    exact (sgn_nat _ (Nat.pow_pos hx)).symm
theorem oI_pos {l : Int} {x : Nat} (hx : 0 < x) {d : Dat} (h : d.k ≠ 0) : 0 < oI l x d := Nat.mul_pos (Nat.pos_of_ne_zero h) (Nat.pow_pos hx)
theorem oG_sq (d : Dat) : (d.s = true ∧ oG d = -1) ∨ (d.s = false ∧ oG d = 1) := by
  unfold oG
  cases d.s
  · exact Or.inr ⟨rfl, rfl⟩
  · exact Or.inl ⟨rfl, rfl⟩
theorem sgn_G {d : Dat} (a b : Int) : sgn (oG d * a) (oG d * b) = oG d * sgn a b := by
  rcases oG_sq d with ⟨_, h⟩ | ⟨_, h⟩
  · rw [h, Int.neg_mul, Int.neg_mul, Int.neg_mul, Int.one_mul, Int.one_mul, Int.one_mul, sgn_minus]
  · rw [h, Int.one_mul, Int.one_mul, Int.one_mul]
/-- by value, among those of one sign -/
theorem oV_one {l : Int} {x : Nat} (hx : 0 < x) {a b : Dat} (ha : oK l a) (hb : oK l b) (hs : a.s = b.s) (h3 : a.c ≠ 3) (h3' : b.c ≠ 3) :
    oV a x b x = if a.c ≠ b.c then oG a * sgn a.c b.c else if a.c = 1 then oG a * sgn (oI l x a : Int) (oI l x b : Int) else 0 := by
  have hG : oG b = oG a := by unfold oG; rw [hs]
  have sA : oS a = if a.c = 1 ∧ a.k = 0 then 0 else oG a := rfl
  have sB : oS b = if b.c = 1 ∧ b.k = 0 then 0 else oG a := by rw [← hG]; rfl
  have hg : oG a = 1 ∨ oG a = -1 := by rcases oG_sq a with ⟨_, h⟩ | ⟨_, h⟩ <;> omega
  have hc1 : a.c = 1 ∨ a.c = 2 := by rcases ha with h | h | h <;> omega
  have hc2 : b.c = 1 ∨ b.c = 2 := by rcases hb with h | h | h <;> omega
  have g1 : sgn 1 2 = -1 := by decide
  have g2 : sgn 2 1 = 1 := by decide
  have z0 : ∀ {d : Dat}, d.k = 0 → oI l x d = 0 := fun h => by unfold oI; rw [h, Nat.zero_mul]
  rcases hc1 with q1 | q1 <;> rcases hc2 with q2 | q2
  · -- both are finite
    rw [if_neg (fun h => h (q1.trans q2.symm)), if_pos q1]
    by_cases k1 : a.k = 0
    · rw [if_pos ⟨q1, k1⟩] at sA
      by_cases k2 : b.k = 0
      · rw [if_pos ⟨q2, k2⟩] at sB
        rw [oV_a (Or.inr sA), sA, sB, z0 k1, z0 k2, sgn_self]
        rw [show sgn ((0 : Nat) : Int) ((0 : Nat) : Int) = 0 from sgn_self _, Int.mul_zero]
      · rw [if_neg (fun h => k2 h.2)] at sB
        rw [oV_a (Or.inr sA), sA, sB, z0 k1]
        have := oI_pos (l := l) hx k2
        have e : sgn ((0 : Nat) : Int) (oI l x b : Int) = -1 := by unfold sgn; rw [if_pos (by omega)]
        rw [e]
        rcases hg with h | h <;> rw [h] <;> decide
    · rw [if_neg (fun h => k1 h.2)] at sA
      by_cases k2 : b.k = 0
      · rw [if_pos ⟨q2, k2⟩] at sB
        rw [oV_a (Or.inl (by rw [sA, sB]; omega)), sA, sB, z0 k2]
        have := oI_pos (l := l) hx k1
        have e : sgn (oI l x a : Int) ((0 : Nat) : Int) = 1 := by unfold sgn; rw [if_neg (by omega), if_pos (by omega)]
        rw [e]
        rcases hg with h | h <;> rw [h] <;> decide
      · rw [if_neg (fun h => k2 h.2)] at sB
        have l1 : l ≤ a.x := by rcases ha with h | h | h <;> omega
        have l2 : l ≤ b.x := by rcases hb with h | h | h <;> omega
        rw [oV_c (by rw [sA, sB]) (by rw [sA]; omega) (by omega), sA, oI_cmp hx l1 l2]
  · rw [if_pos (show a.c ≠ b.c by omega), q1, q2, g1]
    rw [if_neg (show ¬ (b.c = 1 ∧ b.k = 0) by omega)] at sB
    by_cases k1 : a.k = 0
    · rw [if_pos ⟨q1, k1⟩] at sA
      rw [oV_a (Or.inr sA), sA, sB]
      rcases hg with h | h <;> rw [h] <;> decide
    · rw [if_neg (fun h => k1 h.2)] at sA
      rw [oV_b (by rw [sA, sB]) (by rw [sA]; omega) (Or.inr q2), sA, q1, q2, g1]
  · rw [if_pos (show a.c ≠ b.c by omega), q1, q2, g2]
    rw [if_neg (show ¬ (a.c = 1 ∧ a.k = 0) by omega)] at sA
    by_cases k1 : b.k = 0
    · rw [if_pos ⟨q2, k1⟩] at sB
      rw [oV_a (Or.inl (by rw [sA, sB]; omega)), sA, sB]
      rcases hg with h | h <;> rw [h] <;> decide
    · rw [if_neg (fun h => k1 h.2)] at sB
      rw [oV_b (by rw [sA, sB]) (by rw [sA]; omega) (Or.inl q1), sA, q1, q2, g2]
  · rw [if_neg (show ¬ a.c ≠ b.c by omega), if_neg (show ¬ a.c = 1 by omega)]
    rw [if_neg (show ¬ (a.c = 1 ∧ a.k = 0) by omega)] at sA
    rw [if_neg (show ¬ (b.c = 1 ∧ b.k = 0) by omega)] at sB
    rw [oV_b (by rw [sA, sB]) (by rw [sA]; omega) (Or.inl q1), q1, q2, sgn_self, Int.mul_zero]
end Go.Proofs.YtgknbdehlmlipabGreatDoor

namespace Go.Proofs.YtgknbdehlmlipabGreatDoor
open Go.RowKit
/-- what stands in G below the lead -/
def vB (f : DF) : Nat := if f.dn then f.w else 0
/-- a format's layout -/
def LF (f : DF) : Value := LD f.dn ((f.w + 5 : Nat) : Int) (f.t : Int) (vB f : Int) (vQ f) (10 ^ (3 * f.j + 1)) (10 ^ (3 * f.j)) f.l (f.l + 3 * 2 ^ f.w - 1)
theorem DF.ok.w12 {f : DF} (h : f.ok) : 6 ≤ f.w ∧ f.w ≤ 12 ∧ f.t ≤ 110 ∧ 20 ≤ f.t ∧ f.j ≤ 11 := by
  rcases h with ⟨h1, h2, h3, h4⟩ | ⟨h1, h2, h3, h4⟩ | ⟨h1, h2, h3, h4⟩ <;> omega
theorem vQ_256 {f : DF} (h : f.ok) : vQ f < 2 ^ 128 := by
  unfold vQ
  rcases h with ⟨h1, h2, h3, h4⟩ | ⟨h1, h2, h3, h4⟩ | ⟨h1, h2, h3, h4⟩ <;> rw [h1, h3] <;> cases f.dn <;> decide
theorem ten_128 {f : DF} (h : f.ok) : 10 ^ (3 * f.j + 1) < 2 ^ 128 ∧ 10 ^ (3 * f.j) < 2 ^ 128 := by
  rcases h with ⟨h1, h2, h3, h4⟩ | ⟨h1, h2, h3, h4⟩ | ⟨h1, h2, h3, h4⟩ <;> rw [h3] <;> decide
theorem i2pow (n : Nat) : (2 : Int) ^ n = ((2 ^ n : Nat) : Int) := by simp
theorem i2div (x n : Nat) : (x : Int) / 2 ^ n = ((x / 2 ^ n : Nat) : Int) := by rw [i2pow, Int.natCast_ediv]
theorem i2mod (x n : Nat) : (x : Int) % 2 ^ n = ((x % 2 ^ n : Nat) : Int) := by rw [i2pow, Int.natCast_emod]
theorem beq_dec (x y : Nat) : (((x : Nat) : Int) == (y : Int)) = decide (x = y) := by
  by_cases h : x = y
  · subst h; simp
  · rw [decide_eq_false h]; simp; omega
section
variable {f : DF} (h : f.ok)
include h
theorem fsplit (B : Nat) (w : World) (hB : B < 2 ^ 256) : Calls Tryz.prog 70 #[LF f, A4 B] w fun r w' => r = .returned (.tuple #[.bool (vS f B), .int .u64 (vG f B : Int), A4 (vR f B)]) ∧ Below w.heap.size w w' := by
  have hw := h.w12
  have hd : B / 2 ^ f.t < 2 ^ 256 := Nat.lt_of_le_of_lt (Nat.div_le_self _ _) hB
  have hle : B / 2 ^ f.t * 2 ^ f.t ≤ B := Nat.div_mul_le_self _ _
  have c3 := fun W => sub4 B (B / 2 ^ f.t * 2 ^ f.t) W hB (Nat.lt_of_le_of_lt hle hB)
  rw [A4_sub hle, show B - B / 2 ^ f.t * 2 ^ f.t = vR f B by unfold vR; have := Nat.div_add_mod' B (2 ^ f.t); omega] at c3
  have c5 := fun W => dlowb_v (W4 (B / 2 ^ f.t) 0) (f.w + 5) (W4_words _ 0) (by omega) W
  have e5 : W4 (B / 2 ^ f.t) 0 % 2 ^ (f.w + 5) = (vG f B : Int) := by
    unfold W4 vG
    rw [Nat.mul_zero, Nat.pow_zero, Nat.div_one, i2mod]
    congr 1
    rw [show (18446744073709551616 : Nat) = 2 ^ (f.w + 5) * 2 ^ (64 - (f.w + 5)) by rw [← Nat.pow_add, show f.w + 5 + (64 - (f.w + 5)) = 64 by omega]]
    exact Nat.mod_mul_right_mod _ _ _
  rw [e5] at c5
  have e4 : (((B / 2 ^ f.t / 2 ^ (f.w + 5) % 2 : Nat) : Int) == 1) = vS f B := by
    unfold vS
    rw [Nat.div_div_eq_div_mul, ← Nat.pow_add]
    exact beq_dec _ 1
  rw [← e4]
  exact split_w _ _ _ _ _ _ _ _ _ w B _ _ _ _ _ _ (fun W => shr4 B f.t W hB (by omega)) (fun W => shl4 (B / 2 ^ f.t) f.t W hd (by omega)) c3 (fun W => bit4 (B / 2 ^ f.t) (f.w + 5) W hd (by omega)) c5
theorem fkind (G : Nat) (w : World) (hG : G < 2 ^ (f.w + 5)) : Calls Tryz.prog 71 #[LF f, .int .u64 (G : Int)] w fun r w' => r = .returned (.int .u64 (vV f.w G : Int)) ∧ Below w.heap.size w w' := by
  have hw := h.w12
  have hp : 2 ^ (f.w + 5) ≤ 2 ^ 17 := Nat.pow_le_pow_right (by decide) (by omega)
  exact kind_v _ _ _ _ _ _ _ _ _ w (G : Int) _ f.w (by omega) (by omega) (by omega) (by omega) (i2div G f.w)
theorem fsig (G : Nat) (w : World) (hG : G < 2 ^ (f.w + 5)) : Calls Tryz.prog 72 #[LF f, .int .u64 (G : Int)] w fun r w' => r = .returned (.bool (decide (G / 2 ^ (f.w - 1) % 2 = 1))) ∧ Below w.heap.size w w' := by
  have hw := h.w12
  have hp : 2 ^ (f.w + 5) ≤ 2 ^ 17 := Nat.pow_le_pow_right (by decide) (by omega)
  have hd : G / 2 ^ (f.w - 1) ≤ G := Nat.div_le_self _ _
  have e := and_lay (G / 2 ^ (f.w - 1)) 1 (by decide) (by omega)
  have e1 : bits .and .u64 ((G : Int) / 2 ^ (f.w - 1)) 1 = ((G / 2 ^ (f.w - 1) % 2 : Nat) : Int) := by rw [i2div]; exact e
  have c := signals_v f.dn ((f.w + 5 : Nat) : Int) (f.t : Int) (vB f : Int) (vQ f) (10 ^ (3 * f.j + 1)) (10 ^ (3 * f.j)) f.l (f.l + 3 * 2 ^ f.w - 1) w (G : Int) _ (f.w - 1) (by omega) (by omega) (by omega) (by omega) e1
  rw [show (((G / 2 ^ (f.w - 1) % 2 : Nat) : Int) == 1) = decide (G / 2 ^ (f.w - 1) % 2 = 1) from beq_dec _ 1] at c
  exact c
theorem fspec (k : Nat) (s : Bool) (w : World) (hk : k ≤ 31) : Calls Tryz.prog 92 #[LF f, .int .u64 (k : Int), .bool s] w fun r w' => r = .returned (.int .u64 ((k * 2 ^ f.w + (if s then 2 ^ (f.w - 1) else 0) : Nat) : Int)) ∧ Below w.heap.size w w' := by
  have hw := h.w12
  have ho := or_lay k 1 1 (by decide) (by omega)
  have hp : 2 ^ (f.w - 1) ≤ 2 ^ 11 := Nat.pow_le_pow_right (by decide) (by omega)
  have hp0 : 1 ≤ 2 ^ (f.w - 1) := Nat.one_le_two_pow
  have e2 : 2 ^ f.w = 2 * 2 ^ (f.w - 1) := by rw [← Nat.pow_succ']; congr 1; omega
  refine special_v _ _ _ _ _ _ _ _ _ w (k : Int) _ s (f.w - 1) (by omega) (by omega) (by omega) (by omega) (by omega) ((2 ^ (f.w - 1) : Nat) : Int) (i2pow _) (by omega) (by omega) ?_ ?_ ?_
  · rw [show ((k * 2 ^ 1 : Nat) : Int) = (k : Int) * 2 by omega] at ho
    rw [show (1 : Int) = ((1 : Nat) : Int) from rfl, ho]; omega
  · rw [e2]
    generalize 2 ^ (f.w - 1) = H at *
    cases s
    · simp only [Bool.false_eq_true, if_false, Int.add_zero, Nat.add_zero]
      rw [Int.natCast_mul, Int.natCast_mul, Int.mul_assoc]; rfl
    · simp only [if_true]
      rw [Int.natCast_add, Int.natCast_mul, Int.natCast_mul, Int.add_mul, Int.one_mul, Int.mul_assoc]; rfl
  · have : k * 2 ^ f.w ≤ 31 * 2 ^ 12 := Nat.mul_le_mul hk (Nat.pow_le_pow_right (by decide) (by omega))
    have : (if s then 2 ^ (f.w - 1) else 0) ≤ 2 ^ 11 := by split <;> omega
    omega
theorem fread (R : Nat) (w : World) (hR : R < 2 ^ f.t) : Calls Tryz.prog 74 #[LF f, A4 R] w fun r w' => r = .returned (A4 (vT f R)) ∧ Below w.heap.size w w' := by
  have hw := h.w12
  have h256 : R < 2 ^ 256 := Nat.lt_of_lt_of_le hR (Nat.pow_le_pow_right (by decide) (by omega))
  unfold LF vT
  have ht := h.t10
  cases hd : f.dn
  · simp only [Bool.false_eq_true, if_false]
    exact read_p _ _ _ _ _ _ _ _ w R
  · simp only [if_true]
    have c := fun W => dupk_any R (f.j : Int) W h256
    have e : dUv R (f.j : Int) = dlU f.j R := by
      unfold dUv
      rw [if_pos (by omega), Int.toNat_natCast, if_pos (by rw [← h.pt]; exact hR)]
    rw [e] at c
    exact read_d _ _ _ _ _ _ _ _ w R _ _ (f.j : Int) (by omega) (by omega) (by omega) c
theorem fwrite (C : Nat) (w : World) (hC : C < 2 ^ 256) (hd : f.dn = true → C < 1000 ^ f.j) : Calls Tryz.prog 91 #[LF f, A4 C] w fun r w' => r = .returned (A4 (if f.dn then dlP f.j C else C)) ∧ Below w.heap.size w w' := by
  have hw := h.w12
  unfold LF
  have ht := h.t10
  cases e : f.dn
  · simp only [Bool.false_eq_true, if_false]
    exact write_p _ _ _ _ _ _ _ _ w C
  · simp only [if_true]
    have c := fun W => dpck_any C (f.j : Int) W hC
    have e : dPv C (f.j : Int) = dlP f.j C := by
      unfold dPv
      rw [if_pos (by omega), Int.toNat_natCast, if_pos (hd e)]
    rw [e] at c
    exact write_d _ _ _ _ _ _ _ _ w C _ _ (f.j : Int) (by omega) (by omega) (by omega) c
theorem fjoin (s : Bool) (G R : Nat) (w : World) (hG : G < 2 ^ (f.w + 5)) (hR : R < 2 ^ f.t) : Calls Tryz.prog 89 #[LF f, .bool s, .int .u64 (G : Int), A4 R] w fun r w' => r = .returned (A4 ((if s then 2 ^ (f.t + (f.w + 5)) else 0) + G * 2 ^ f.t + R)) ∧ Below w.heap.size w w' := by
  have hw := h.w12
  have hp : 2 ^ (f.w + 5) ≤ 2 ^ 17 := Nat.pow_le_pow_right (by decide) (by omega)
  have hp0 : 1 ≤ 2 ^ (f.w + 5) := Nat.one_le_two_pow
  have hpt : 2 ^ f.t ≤ 2 ^ 110 := Nat.pow_le_pow_right (by decide) (by omega)
  have key : ∀ E : Nat, E < 2 ^ 18 → (∀ W, Calls Tryz.prog 36 #[.int .u64 (E : Int)] W fun x w' => x = .returned (A4 E) ∧ Below W.heap.size W w') ∧ (∀ W, Calls Tryz.prog 66 #[A4 E, .int .i64 (f.t : Int)] W fun x w' => x = .returned (A4 (E * 2 ^ f.t)) ∧ Below W.heap.size W w') ∧ (∀ W, Calls Tryz.prog 38 #[A4 (E * 2 ^ f.t), A4 R] W fun x w' => x = .returned (.tuple #[A4 (E * 2 ^ f.t + R), .int .u64 (((E * 2 ^ f.t + R) / 2 ^ 256 : Nat) : Int)]) ∧ Below W.heap.size W w') := by
    intro E hE
    have hm : E * 2 ^ f.t ≤ 2 ^ 18 * 2 ^ 110 := Nat.mul_le_mul (by omega) hpt
    have e : (2 : Nat) ^ 18 * 2 ^ 110 < 2 ^ 256 := by decide
    exact ⟨fun W => of4 E W (by omega), fun W => shl4 E f.t W (by omega) (by omega), fun W => add4 _ _ W (by omega) (Nat.lt_of_lt_of_le hR (by omega))⟩
  cases s
  · obtain ⟨k1, k2, k3⟩ := key G (by omega)
    simp only [Bool.false_eq_true, if_false, Nat.zero_add]
    exact djoin_n _ _ _ _ _ _ _ _ _ w _ _ _ _ _ _ k1 k2 k3
  · obtain ⟨k1, k2, k3⟩ := key (2 ^ (f.w + 5) + G) (by omega)
    have ho := or_lay 1 G (f.w + 5) hG (by omega)
    rw [Nat.one_mul] at ho
    have hc : bits .or .u64 (G : Int) ((2 ^ (f.w + 5) : Nat) : Int) = ((2 ^ (f.w + 5) + G : Nat) : Int) := by
      rw [← ho]
      have e1 := orW_eq ((2 ^ (f.w + 5) : Nat) : Int) (G : Int) (by omega) (by omega)
      have e2 := orW_eq (G : Int) ((2 ^ (f.w + 5) : Nat) : Int) (by omega) (by omega)
      unfold orW at e1 e2
      rw [e1, e2, Nat.or_comm]
    simp only [if_true]
    rw [show 2 ^ (f.t + (f.w + 5)) + G * 2 ^ f.t + R = (2 ^ (f.w + 5) + G) * 2 ^ f.t + R by rw [Nat.add_mul, ← Nat.pow_add, Nat.add_comm (f.w + 5) f.t]]
    exact djoin_s _ _ _ _ _ _ _ _ _ w (G : Int) _ _ _ _ _ _ k1 k2 k3 (f.w + 5) _ rfl (by omega) (i2pow _) (by omega) (by omega) hc
set_option maxHeartbeats 1000000 in
theorem fpart (G : Nat) (w : World) (hG : G < 2 ^ (f.w + 5)) : Calls Tryz.prog 75 #[LF f, .int .u64 (G : Int)] w fun r w' => r = .returned (.tuple #[.int .u64 (vF f.dn f.w G : Int), .int .u64 (vL f.dn f.w G : Int)]) ∧ Below w.heap.size w w' := by
  have hw := h.w12
  have hp : 2 ^ (f.w + 5) ≤ 2 ^ 17 := Nat.pow_le_pow_right (by decide) (by omega)
  have hB : vB f ≤ 12 := by unfold vB; split <;> omega
  have hA : G / 2 ^ vB f ≤ G := Nat.div_le_self _ _
  have cl := fun W => dlowb_v (G : Int) (vB f) (by omega) (by omega) W
  rw [i2mod] at cl
  have hX : G % 2 ^ vB f < 2 ^ vB f := Nat.mod_lt _ (Nat.two_pow_pos _)
  have hpb : 2 ^ vB f ≤ 2 ^ 12 := Nat.pow_le_pow_right (by decide) hB
  have e8 : 2 ^ (f.w + 5) = 32 * 2 ^ f.w := by rw [Nat.pow_add, Nat.mul_comm]
  have e3 : 2 ^ (f.w + 3) = 8 * 2 ^ f.w := by rw [Nat.pow_add, Nat.mul_comm]
  have hV8 : G / 2 ^ (f.w + 3) = vV f.w G / 8 := by unfold vV; rw [Nat.div_div_eq_div_mul, e3, Nat.mul_comm]
  have hV32 : vV f.w G < 32 := by unfold vV; rw [Nat.div_lt_iff_lt_mul (Nat.two_pow_pos _), ← e8]; exact hG
  have hone : 1 ≤ 2 ^ f.w := Nat.one_le_two_pow
  by_cases h24 : vV f.w G < 24
  · have hF : ∃ F : Nat, F = G / 2 ^ vB f / 8 ∧ vF f.dn f.w G = F * 2 ^ vB f + G % 2 ^ vB f := by
      refine ⟨_, rfl, ?_⟩
      unfold vF vB
      cases f.dn
      · simp only [Bool.false_eq_true, if_false, Nat.pow_zero, Nat.div_one, Nat.mod_one, Nat.mul_one, Nat.add_zero, if_pos h24]
      · simp only [if_true, if_pos h24]; rfl
    obtain ⟨F, hF1, hF2⟩ := hF
    have hFl : F ≤ G := by rw [hF1]; exact Nat.le_trans (Nat.div_le_self _ _) hA
    have hFm : F * 2 ^ vB f ≤ 2 ^ 17 * 2 ^ 12 := Nat.mul_le_mul (by omega) hpb
    have ho := or_lay F (G % 2 ^ vB f) (vB f) hX (by omega)
    rw [hF2]
    have hL : vL f.dn f.w G = G / 2 ^ vB f % 8 := by
      unfold vL vB
      cases f.dn
      · simp only [Bool.false_eq_true, if_false, Nat.pow_zero, Nat.div_one, if_pos h24]
      · simp only [if_true, if_pos h24]; rfl
    rw [hL]
    have c3 := fun W => dlow_v ((G / 2 ^ vB f : Nat) : Int) 3 (by omega) (by decide) W
    rw [i2mod] at c3
    refine part_s f.dn _ _ _ _ _ _ _ w (G : Int) ((G / 2 ^ vB f : Nat) : Int) ((G / 2 ^ (f.w + 3) : Nat) : Int) (F : Int) ((F * 2 ^ vB f : Nat) : Int) ((G % 2 ^ vB f : Nat) : Int) _ _ (vB f) (f.w + 3) (by omega) (by omega) (by omega) (by omega) (by omega) (i2div _ _) (by omega) (by omega) (i2div _ _) (by omega) (by omega) (by rw [i2pow, Int.natCast_mul]) (by omega) (by omega) cl ho ?_ (by omega) c3
    rw [show (3 : Int) = ((3 : Nat) : Int) from rfl, beq_dec, hV8]
    exact decide_eq_false (by omega)
  · have e2 : 2 ^ (f.w + 2) = 4 * 2 ^ f.w := by rw [Nat.pow_add, Nat.mul_comm]
    have hk : ∃ k : Nat, ((f.w + 3 : Nat) : Int) - (vB f : Int) = (k : Int) ∧ k ≤ 15 ∧ vF f.dn f.w G = G / 2 ^ vB f % 2 ^ k / 2 * 2 ^ vB f + G % 2 ^ vB f ∧ vL f.dn f.w G = 8 + G / 2 ^ vB f % 2 ^ k % 2 := by
      unfold vF vL vB
      cases f.dn
      · refine ⟨f.w + 3, by simp, by omega, ?_, ?_⟩
        · simp only [Bool.false_eq_true, if_false, Nat.pow_zero, Nat.div_one, Nat.mod_one, Nat.mul_one, Nat.add_zero, if_neg h24]
          rw [e2, e3]; generalize 2 ^ f.w = H at *; rw [show 8 * H = 2 * (4 * H) by omega, Nat.mod_mul_right_div_self]
        · simp only [Bool.false_eq_true, if_false, Nat.pow_zero, Nat.div_one, if_neg h24]
          rw [e3, show 8 * 2 ^ f.w = 2 * (4 * 2 ^ f.w) by omega, Nat.mod_mul_right_mod]
      · refine ⟨3, by simp only [if_true]; omega, by omega, ?_, ?_⟩
        · simp only [if_true, if_neg h24]
          show vV f.w G / 2 % 4 * _ + _ = vV f.w G % 2 ^ 3 / 2 * _ + _
          rw [show (2 : Nat) ^ 3 = 2 * 4 by decide, Nat.mod_mul_right_div_self]
        · simp only [if_true, if_neg h24]
          show 8 + vV f.w G % 2 = 8 + vV f.w G % 2 ^ 3 % 2
          rw [show (2 : Nat) ^ 3 = 2 * 4 by decide, Nat.mod_mul_right_mod]
    obtain ⟨k, hk, hk15, hF2, hL⟩ := hk
    rw [hF2, hL]
    have hAi : (G : Int) / 2 ^ vB f = ((G / 2 ^ vB f : Nat) : Int) := i2div _ _
    have hMi : (G : Int) / 2 ^ (f.w + 3) = ((G / 2 ^ (f.w + 3) : Nat) : Int) := i2div _ _
    have hq : (((G / 2 ^ (f.w + 3) : Nat) : Int) == 3) = true := by
      rw [show (3 : Int) = ((3 : Nat) : Int) from rfl, beq_dec, hV8]
      exact decide_eq_true (by omega)
    generalize G / 2 ^ vB f = A at *
    generalize G / 2 ^ (f.w + 3) = M at *
    generalize G % 2 ^ vB f = X at *
    have c3 := fun W => dlow_v (A : Int) k (by omega) (by omega) W
    rw [i2mod] at c3
    have hAk : A % 2 ^ k ≤ A := Nat.mod_le _ _
    generalize A % 2 ^ k = A' at *
    have hFm : A' / 2 * 2 ^ vB f ≤ 2 ^ 17 * 2 ^ 12 := Nat.mul_le_mul (by omega) hpb
    have ho := or_lay (A' / 2) X (vB f) hX (by omega)
    have c4 := fun W => dlow_v (A' : Int) 1 (by omega) (by omega) W
    rw [i2mod] at c4
    exact part_g f.dn _ _ _ _ _ _ _ w (G : Int) (A : Int) (M : Int) ((A' / 2 : Nat) : Int) ((A' / 2 * 2 ^ vB f : Nat) : Int) (X : Int) _ _ (vB f) (f.w + 3) (by omega) (by omega) (by omega) (by omega) (by omega) hAi (by omega) (by omega) hMi (by omega) (by omega) (by rw [i2pow, Int.natCast_mul]) (by omega) (by omega) cl ho (A' : Int) ((A' % 2 ^ 1 : Nat) : Int) k hq hk (by omega) (by omega) (by omega) (by omega) (by omega) (by omega) c3 c4
set_option maxHeartbeats 1000000 in
theorem funite (E a : Nat) (w : World) (hE : E < 3 * 2 ^ f.w) (ha : a ≤ 9) : Calls Tryz.prog 90 #[LF f, .int .u64 (E : Int), .int .u64 (a : Int)] w fun r w' => r = .returned (.int .u64 (vN f.dn f.w E a : Int)) ∧ Below w.heap.size w w' := by
  have hw := h.w12
  have hp : 2 ^ f.w ≤ 2 ^ 12 := Nat.pow_le_pow_right (by decide) (by omega)
  have hB : vB f ≤ 12 := by unfold vB; split <;> omega
  have hA : E / 2 ^ vB f ≤ E := Nat.div_le_self _ _
  have cl := fun W => dlowb_v (E : Int) (vB f) (by omega) (by omega) W
  rw [i2mod] at cl
  have hX : E % 2 ^ vB f < 2 ^ vB f := Nat.mod_lt _ (Nat.two_pow_pos _)
  have hpb : 2 ^ vB f ≤ 2 ^ 12 := Nat.pow_le_pow_right (by decide) hB
  have hone : 1 ≤ 2 ^ f.w := Nat.one_le_two_pow
  by_cases h8 : 8 ≤ a
  · have hk : ∃ k : Nat, ((f.w + 5 : Nat) : Int) - 2 - (vB f : Int) = (k : Int) ∧ 1 ≤ k ∧ k ≤ 15 ∧ E / 2 ^ vB f * 2 < 2 ^ k ∧ vN f.dn f.w E a = (3 * 2 ^ k + E / 2 ^ vB f * 2 + a % 2) * 2 ^ vB f + E % 2 ^ vB f := by
      unfold vN vB
      have e3 : 2 ^ (f.w + 3) = 8 * 2 ^ f.w := by rw [Nat.pow_add, Nat.mul_comm]
      cases f.dn
      · refine ⟨f.w + 3, by simp only [Bool.false_eq_true, if_false]; omega, by omega, by omega, ?_, ?_⟩
        · simp only [Bool.false_eq_true, if_false, Nat.pow_zero, Nat.div_one]; omega
        · simp only [Bool.false_eq_true, if_false, Nat.pow_zero, Nat.div_one, Nat.mod_one, Nat.mul_one, Nat.add_zero, if_pos h8]
      · refine ⟨3, by simp only [if_true]; omega, by omega, by omega, ?_, ?_⟩
        · simp only [if_true]
          have : E / 2 ^ f.w < 3 := by rw [Nat.div_lt_iff_lt_mul (Nat.two_pow_pos _)]; exact hE
          omega
        · simp only [if_true, if_pos h8]
    obtain ⟨k, hk, hk1, hk15, hAk, hN⟩ := hk
    rw [hN]
    have hAi : (E : Int) / 2 ^ vB f = ((E / 2 ^ vB f : Nat) : Int) := i2div _ _
    have hpk : 2 ^ k ≤ 2 ^ 15 := Nat.pow_le_pow_right (by decide) hk15
    have hpk1 : 1 ≤ 2 ^ k := Nat.one_le_two_pow
    have ek : 2 ^ k = 2 ^ (k - 1) * 2 := by rw [← Nat.pow_succ]; congr 1; omega
    have hki : (2 : Int) ^ k = ((2 ^ k : Nat) : Int) := i2pow k
    generalize E / 2 ^ vB f = A at *
    generalize E % 2 ^ vB f = X at *
    have hU := or_lay 3 (A * 2) k hAk (by omega)
    have hY := or_lay (3 * 2 ^ (k - 1) + A) (a % 2) 1 (Nat.mod_lt _ (by decide)) (by omega)
    rw [show (3 * 2 ^ (k - 1) + A) * 2 ^ 1 = 3 * 2 ^ k + A * 2 by omega] at hY
    have c1 := fun W => dlowb_v (a : Int) 1 (by omega) (by omega) W
    rw [i2mod, Nat.pow_one] at c1
    have hU' : bits .or .u64 (3 * ((2 ^ k : Nat) : Int)) ((A : Int) * 2) = ((3 * 2 ^ k + A * 2 : Nat) : Int) := by
      rw [← hU, Int.natCast_mul, Int.natCast_mul]; rfl
    clear hU
    generalize 2 ^ k = H at *
    have hYm : (3 * H + A * 2 + a % 2) * 2 ^ vB f ≤ 2 ^ 18 * 2 ^ 12 := Nat.mul_le_mul (by omega) hpb
    have ho := or_lay (3 * H + A * 2 + a % 2) X (vB f) hX (by omega)
    exact unite_g f.dn _ _ _ _ _ _ _ w (E : Int) (a : Int) (A : Int) ((3 * H + A * 2 + a % 2 : Nat) : Int) (((3 * H + A * 2 + a % 2) * 2 ^ vB f : Nat) : Int) (X : Int) _ (vB f) (by omega) (by omega) (by omega) (by omega) (by omega) hAi (by omega) (by omega) (by omega) (by omega) (by rw [i2pow, Int.natCast_mul]) (by omega) (by omega) cl ho k (H : Int) ((3 * H + A * 2 : Nat) : Int) ((a % 2 : Nat) : Int) (by omega) hk hki (by omega) (by omega) hU' hY c1
  · have hN : vN f.dn f.w E a = (E / 2 ^ vB f * 8 + a) * 2 ^ vB f + E % 2 ^ vB f := by
      unfold vN vB
      cases f.dn
      · simp only [Bool.false_eq_true, if_false, Nat.pow_zero, Nat.div_one, Nat.mod_one, Nat.mul_one, Nat.add_zero, if_neg h8]
      · simp only [if_true, if_neg h8]
    rw [hN]
    have hAi : (E : Int) / 2 ^ vB f = ((E / 2 ^ vB f : Nat) : Int) := i2div _ _
    generalize E / 2 ^ vB f = A at *
    generalize E % 2 ^ vB f = X at *
    have hY := or_lay A a 3 (by omega) (by omega)
    have hY' : bits .or .u64 ((A : Int) * 8) (a : Int) = ((A * 8 + a : Nat) : Int) := hY
    have hYm : (A * 8 + a) * 2 ^ vB f ≤ 2 ^ 18 * 2 ^ 12 := Nat.mul_le_mul (by omega) hpb
    have ho := or_lay (A * 8 + a) X (vB f) hX (by omega)
    exact unite_s f.dn _ _ _ _ _ _ _ w (E : Int) (a : Int) (A : Int) ((A * 8 + a : Nat) : Int) (((A * 8 + a) * 2 ^ vB f : Nat) : Int) (X : Int) _ (vB f) (by omega) (by omega) (by omega) (by omega) (by omega) hAi (by omega) (by omega) (by omega) (by omega) (by rw [i2pow, Int.natCast_mul]) (by omega) (by omega) cl ho (by omega) hY'
end
end Go.Proofs.YtgknbdehlmlipabGreatDoor

namespace Go.Proofs.YtgknbdehlmlipabGreatDoor
open Go.RowKit
theorem vT_256 {f : DF} (h : f.ok) {R : Nat} (hR : R < 2 ^ f.t) : vT f R < 2 ^ 128 := by
  have hw := h.w12
  have := ten_128 h
  cases hd : f.dn
  · unfold vT; rw [hd, if_neg (by decide)]; exact Nat.lt_of_lt_of_le hR (Nat.pow_le_pow_right (by decide) (by omega))
  · exact Nat.lt_trans (vT_lt h hd R) this.2
theorem vL_9 {f : DF} (dn : Bool) (w G : Nat) : vL dn w G ≤ 9 := by
  unfold vL
  cases dn <;> simp only [Bool.false_eq_true, if_false, if_true] <;> split <;> omega
theorem dsgn_ge (A B : Nat) : 0 ≤ sgn (A : Int) (B : Int) ↔ ¬ A < B := by
  unfold sgn
  by_cases h : (A : Int) < (B : Int)
  · rw [if_pos h]; constructor
    · intro q; exact absurd q (by decide)
    · intro q; omega
  · rw [if_neg h]; constructor
    · intro _; omega
    · intro _; split <;> decide
section
variable {f : DF} (h : f.ok)
include h
set_option maxHeartbeats 1000000 in
theorem fmean (B : Nat) (w : World) (hB : B < 2 ^ 256) : Calls Tryz.prog 52 #[LF f, A4 B] w fun r w' => r = .returned (vM f B).v ∧ Below w.heap.size w w' := by
  have hw := h.w12
  have hG := vG_lt f B
  have hR := vR_lt f B
  have cs := fun W => fsplit h B W hB
  have ck := fun W => fkind h (vG f B) W hG
  have cr := fun W => fread h (vR f B) W hR
  have hU := vT_256 h hR
  have h10 := ten_128 h
  have e256 : (2 : Nat) ^ 128 * 2 ^ 4 < 2 ^ 256 := by decide
  unfold vM vD
  generalize vG f B = G at *
  generalize vR f B = R at *
  generalize vS f B = s at *
  by_cases h30 : vV f.w G = 30
  · rw [if_pos h30]
    exact dmean_i _ _ _ _ _ _ _ _ _ w B R s (G : Int) _ cs ck (by rw [h30]; rfl)
  · rw [if_neg h30]
    have e30 : (((vV f.w G : Nat) : Int) == 30) = false := by rw [show (30 : Int) = ((30 : Nat) : Int) from rfl, beq_dec]; exact decide_eq_false h30
    by_cases h31 : vV f.w G = 31
    · rw [if_pos h31]
      exact dmean_n _ _ _ _ _ _ _ _ _ w B R s (G : Int) _ cs ck (vT f R) _ cr _ e30 (by rw [h31]; rfl) (fun W => fsig h G W hG) (fun W => nought_v (vT f R) (10 ^ (3 * f.j)) W (by omega) (by omega))
    · rw [if_neg h31]
      have e31 : (((vV f.w G : Nat) : Int) == 31) = false := by rw [show (31 : Int) = ((31 : Nat) : Int) from rfl, beq_dec]; exact decide_eq_false h31
      have hL := vL_9 (f := f) f.dn f.w G
      have hq := vQ_256 h
      have hm : vL f.dn f.w G * vQ f ≤ 2 ^ 4 * 2 ^ 128 := Nat.mul_le_mul (by omega) (by omega)
      have cm := fun W => mul4 (vQ f) (vL f.dn f.w G) W (by omega) (by omega)
      rw [Nat.mul_comm (vQ f)] at cm
      have hF : vF f.dn f.w G < 1000000 := by
        unfold vF vV
        rcases h with ⟨h1, h2, h3, h4⟩ | ⟨h1, h2, h3, h4⟩ | ⟨h1, h2, h3, h4⟩ <;> rw [h2] at hG ⊢ <;> cases f.dn <;> simp only [Bool.false_eq_true, if_false, if_true] <;> simp only [Nat.reducePow, Nat.reduceAdd] at * <;> split <;> omega
      have hl : -1000000 ≤ f.l ∧ f.l ≤ 1000000 := by rcases h with ⟨h1, h2, h3, h4⟩ | ⟨h1, h2, h3, h4⟩ | ⟨h1, h2, h3, h4⟩ <;> omega
      have e5 : (2 : Nat) ^ 4 * 2 ^ 128 + 2 ^ 128 < 2 ^ 256 := by decide
      exact dmean_f _ _ _ _ _ _ _ _ _ w B R s (G : Int) _ cs ck (vT f R) _ cr _ _ _ _ _ _ e30 e31 (by omega) (by omega) hl.1 hl.2 (fun W => fpart h G W hG) cm (fun W => add4 _ _ W (by omega) (by omega)) (fun W => nought_v _ (10 ^ (3 * f.j + 1)) W (by omega) (by omega))
set_option maxHeartbeats 2000000 in
theorem fpack (d : Dat) (w : World) (hk : d.k < 2 ^ 256) : Calls Tryz.prog 53 #[LF f, d.v] w fun r w' => r = .returned (.tuple #[A4 (if vI f d then vP f d else 0), .int .i64 (if vI f d then 0 else 3)]) ∧ Below w.heap.size w w' := by
  have hw := h.w12
  have h10 := ten_128 h
  have hq := vQ_256 h
  have e256 : (2 : Nat) ^ 128 < 2 ^ 256 := by decide
  have hl : -1000000 ≤ f.l ∧ f.l ≤ 0 := by rcases h with ⟨h1, h2, h3, h4⟩ | ⟨h1, h2, h3, h4⟩ | ⟨h1, h2, h3, h4⟩ <;> omega
  have hw3 : (3 * 2 ^ f.w : Nat) ≤ 3 * 2 ^ 12 := Nat.mul_le_mul (Nat.le_refl _) (Nat.pow_le_pow_right (by decide) (by omega))
  have ei : ((3 * 2 ^ f.w : Nat) : Int) = 3 * 2 ^ f.w := by rw [Int.natCast_mul, i2pow]; rfl
  obtain ⟨c, s, g, x, k⟩ := d
  simp only at hk
  by_cases h1 : c = 1
  · subst h1
    refine dpack_1 _ _ _ _ _ _ _ _ _ w x s g k _ _ ?_
    intro W
    by_cases hi : vI f ⟨1, s, g, x, k⟩
    · rw [if_pos hi, if_pos hi]
      have hPG := vPG_lt h hi
      have hPR := vPR_lt h hi
      obtain ⟨_, hg, hk10, hx0, hx1⟩ : (1 : Int) = 1 ∧ g = false ∧ k < 10 ^ (3 * f.j + 1) ∧ f.l ≤ x ∧ x ≤ f.l + 3 * 2 ^ f.w - 1 := by
        rcases hi with hi | hi | hi
        · exact hi
        · exact absurd (show (1 : Int) = 2 from hi.1) (by decide)
        · exact absurd (show (1 : Int) = 3 from hi.1) (by decide)
      subst hg
      have hqp : 0 < vQ f := by
        unfold vQ; cases f.dn <;> simp only [Bool.false_eq_true, if_false, if_true]
        · exact Nat.two_pow_pos _
        · exact Nat.pow_pos (by decide)
      have hm9 : k / vQ f ≤ 9 := by
        unfold vQ
        rcases h with ⟨h1, h2, h3, h4⟩ | ⟨h1, h2, h3, h4⟩ | ⟨h1, h2, h3, h4⟩ <;> rw [h3] at hk10 ⊢ <;> rw [h1] <;> cases f.dn <;> simp only [Bool.false_eq_true, if_false, if_true] <;> simp only [Nat.reducePow, Nat.reduceAdd, Nat.reduceMul] at * <;> omega
      have hmod : k - k / vQ f * vQ f = k % vQ f := by have := Nat.div_add_mod' k (vQ f); omega
      have hlt := Nat.mod_lt k hqp
      have hE : (x - f.l).toNat < 3 * 2 ^ f.w := by omega
      have hEi : x - f.l = (((x - f.l).toNat : Nat) : Int) := by omega
      have cn := fun W => funite h (x - f.l).toNat (k / vQ f) W hE hm9
      rw [← hEi] at cn
      have hvN : vPG f ⟨1, s, false, x, k⟩ = vN f.dn f.w (x - f.l).toNat (k / vQ f) := rfl
      rw [← hvN] at cn
      have hR0 : ∀ i, k - i * vQ f < 2 ^ 256 := fun i => by omega
      have cw := fun W => fwrite h (k - k / vQ f * vQ f) W (hR0 _) (fun hd => by
        rw [hmod, ← ten3]
        have : vQ f = 10 ^ (3 * f.j) := by unfold vQ; rw [hd, if_pos rfl]
        rw [this] at hlt ⊢
        exact hlt)
      have ew : (if f.dn = true then dlP f.j (k - k / vQ f * vQ f) else k - k / vQ f * vQ f) = vPR f ⟨1, s, false, x, k⟩ := by
        rw [hmod]
        unfold vPR vQ
        simp only [show ¬ ((1 : Int) = 2) by decide, show ¬ ((1 : Int) = 3) by decide, if_false]
        cases f.dn <;> simp
      rw [ew] at cw
      have cj := fun W => fjoin h s _ _ W hPG hPR
      refine dfin_y _ _ _ _ _ _ _ _ _ W x s k _ _ (fun W => cmp4 k _ W hk (by omega)) (by omega) (by omega) (by rw [dsgn_ge]; omega) (k / vQ f) (by omega) (fun i => k - i * vQ f) (fun i => sgn ((k - i * vQ f : Nat) : Int) (vQ f : Int)) (fun i => if k - i * vQ f < vQ f then 1 else 0) (by simp) _ hl.1 (by omega) (by omega) _ ?_ ?_ ?_ ?_ cn cw cj
      · show ∀ _, _
        intro i hi W
        exact cmp4 _ _ W (hR0 i) (by omega)
      · show ∀ _, _
        intro i hi
        rw [dsgn_ge]
        have : (i + 1) * vQ f ≤ k := Nat.le_trans (Nat.mul_le_mul_right _ hi) (Nat.div_mul_le_self _ _)
        rw [Nat.add_mul, Nat.one_mul] at this
        omega
      · show ¬ _
        rw [dsgn_ge, hmod]; omega
      · show ∀ _, _
        intro i hi W
        have : (i + 1) * vQ f ≤ k := Nat.le_trans (Nat.mul_le_mul_right _ hi) (Nat.div_mul_le_self _ _)
        have e : k - (i + 1) * vQ f = k - i * vQ f - vQ f := by rw [Nat.add_mul, Nat.one_mul]; omega
        rw [Nat.add_mul, Nat.one_mul] at this
        have c := sub4 (k - i * vQ f) (vQ f) W (hR0 i) (by omega)
        rw [A4_sub (by omega), ← e] at c
        exact c
    · rw [if_neg hi, if_neg hi]
      cases g
      · by_cases a1 : x < f.l
        · exact dfin_l _ _ _ _ _ _ _ _ _ W x s k a1
        · by_cases a2 : f.l + 3 * 2 ^ f.w - 1 < x
          · exact dfin_m _ _ _ _ _ _ _ _ _ W x s k a1 a2
          · have a3 : ¬ k < 10 ^ (3 * f.j + 1) := fun q => hi (Or.inl ⟨rfl, rfl, q, (by omega : f.l ≤ x), (by omega : x ≤ f.l + 3 * 2 ^ f.w - 1)⟩)
            exact dfin_k _ _ _ _ _ _ _ _ _ W x s k _ (fun W => cmp4 k _ W hk (by omega)) a1 a2 ((dsgn_ge _ _).2 a3)
      · exact dfin_s _ _ _ _ _ _ _ _ _ W x s k
  · by_cases h2 : c = 2
    · subst h2
      refine dpack_2 _ _ _ _ _ _ _ _ _ w x s g k _ _ ?_
      intro W
      by_cases hi : vI f ⟨2, s, g, x, k⟩
      · rw [if_pos hi, if_pos hi]
        have hPG := vPG_lt h hi
        obtain ⟨_, hg, hk0, hx0⟩ : (2 : Int) = 2 ∧ g = false ∧ k = 0 ∧ x = 0 := by
          rcases hi with hi | hi | hi
          · exact absurd (show (2 : Int) = 1 from hi.1) (by decide)
          · exact hi
          · exact absurd (show (2 : Int) = 3 from hi.1) (by decide)
        subst hg hk0 hx0
        have cp := fun W => fspec h 30 false W (by decide)
        have cj := fun W => fjoin h s _ 0 W hPG (Nat.two_pow_pos _)
        rw [Z4_eq] at cj
        exact dinf_y _ _ _ _ _ _ _ _ _ W s _ _ cp cj
      · rw [if_neg hi, if_neg hi]
        cases g
        · by_cases a1 : x = 0
          · subst a1
            refine dinf_k _ _ _ _ _ _ _ _ _ W s k (decide_eq_false fun q => hi (Or.inr (Or.inl ⟨rfl, rfl, ?_, rfl⟩)))
            refine A4_inj hk (by decide) fun i hi => ?_
            rw [W4_zero]
            rcases (show i = 0 ∨ i = 1 ∨ i = 2 ∨ i = 3 by omega) with e | e | e | e <;> subst e
            · exact q.1
            · exact q.2.1
            · exact q.2.2.1
            · exact q.2.2.2
          · exact dinf_x _ _ _ _ _ _ _ _ _ W x s k (by simp [a1])
        · exact dinf_s _ _ _ _ _ _ _ _ _ W x s k
    · by_cases h3 : c = 3
      · subst h3
        refine dpack_3 _ _ _ _ _ _ _ _ _ w x s g k _ _ ?_
        intro W
        by_cases hi : vI f ⟨3, s, g, x, k⟩
        · rw [if_pos hi, if_pos hi]
          have hPG := vPG_lt h hi
          have hPR := vPR_lt h hi
          obtain ⟨_, hx0, hk10⟩ : (3 : Int) = 3 ∧ x = 0 ∧ k < 10 ^ (3 * f.j) := by
            rcases hi with hi | hi | hi
            · exact absurd (show (3 : Int) = 1 from hi.1) (by decide)
            · exact absurd (show (3 : Int) = 2 from hi.1) (by decide)
            · exact hi
          subst hx0
          have cp := fun W => fspec h 31 g W (by decide)
          have cw := fun W => fwrite h k W hk (fun _ => by rw [← ten3]; exact hk10)
          have cj := fun W => fjoin h s _ _ W hPG hPR
          exact dnan_y _ _ _ _ _ _ _ _ _ W s g k _ _ _ (fun W => cmp4 k _ W hk (by omega)) _ (by rw [dsgn_ge]; omega) cp cw cj
        · rw [if_neg hi, if_neg hi]
          by_cases a1 : x = 0
          · subst a1
            have a3 : ¬ k < 10 ^ (3 * f.j) := fun q => hi (Or.inr (Or.inr ⟨rfl, rfl, q⟩))
            exact dnan_k _ _ _ _ _ _ _ _ _ W s g k _ (fun W => cmp4 k _ W hk (by omega)) ((dsgn_ge _ _).2 a3)
          · exact dnan_x _ _ _ _ _ _ _ _ _ W x s g k (by simp [a1])
      · have hi : ¬ vI f ⟨c, s, g, x, k⟩ := by
          rintro (q | q | q)
          · exact h1 q.1
          · exact h2 q.1
          · exact h3 q.1
        rw [if_neg hi, if_neg hi]
        exact dpack_0 _ _ _ _ _ _ _ _ _ w c x s g k (by simp [h1]) (by simp [h2]) (by simp [h3])
end
end Go.Proofs.YtgknbdehlmlipabGreatDoor
