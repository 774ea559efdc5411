/-
  Texts that the proof leans on.
-/
import Derived.Test.YtgknbdehlmlipaaGreatDoorR22
import Derived.Test.YtgknbdehlmlipaaGreatDoorR38
import Derived.Test.YtgknbdehlmlipaaGreatDoorR39
import Derived.Test.YtgknbdehlmlipaaGreatDoorR21
import Derived.Test.YtgknbdehlmlipaaGreatDoorR18
import Derived.Test.YtgknbdehlmlipaaGreatDoorR26
import Derived.Test.YtgknbdehlmlipaaGreatDoorR31
import Derived.Test.YtgknbdehlmlipaaGreatDoorR27
import Derived.Test.YtgknbdehlmlipaaGreatDoorR34
set_option linter.unusedVariables false
set_option linter.unusedSectionVars false
set_option linter.unusedSimpArgs false
set_option maxRecDepth 20000
namespace Go.Proofs.YtgknbdehlmlipaaGreatDoor
open Go.RowKit
theorem sgn_times {c : Int} (a b : Int) (hc : 0 < c) : sgn (a * c) (b * c) = sgn a b := by
  unfold sgn
  have h1 : (a * c < b * c) ↔ a < b := Int.mul_lt_mul_right hc
  have h2 : (b * c < a * c) ↔ b < a := Int.mul_lt_mul_right hc
  simp only [h1, h2]
theorem sgn_minus (a b : Int) : sgn (-a) (-b) = - sgn a b := by
  unfold sgn
  split <;> split <;> (try split) <;> omega
theorem sgn_nat {a b : Nat} (c : Nat) (hc : 0 < c) : sgn ((a * c : Nat) : Int) ((b * c : Nat) : Int) = sgn (a : Int) (b : Int) := by
  rw [Int.natCast_mul, Int.natCast_mul]
  exact sgn_times _ _ (by omega)
/-- on which side of 0 a datum lies -/
def oS (d : Dat) : Int := if d.c = 1 ∧ d.k = 0 then 0 else if d.s then -1 else 1
def oN (d : Dat) (x : Nat) : Nat := d.k * x ^ d.x.toNat
def oD (d : Dat) (x : Nat) : Nat := 1 * x ^ (-d.x).toNat
/-- two data by value -/
def oV (a : Dat) (x : Nat) (b : Dat) (y : Nat) : Int :=
  if oS a ≠ oS b ∨ oS a = 0 then sgn (oS a) (oS b)
  else if a.c = 2 ∨ b.c = 2 then oS a * sgn a.c b.c
  else oS a * sgn ((oN a x * oD b y : Nat) : Int) ((oN b y * oD a x : Nat) : Int)
theorem oV_a {a b : Dat} {x y : Nat} (h : oS a ≠ oS b ∨ oS a = 0) : oV a x b y = sgn (oS a) (oS b) := if_pos h
theorem oV_b {a b : Dat} {x y : Nat} (h : oS a = oS b) (h0 : oS a ≠ 0) (h2 : a.c = 2 ∨ b.c = 2) : oV a x b y = oS a * sgn a.c b.c := by
  unfold oV
  rw [if_neg (show ¬ (oS a ≠ oS b ∨ oS a = 0) by omega), if_pos h2]
theorem oV_c {a b : Dat} {x y : Nat} (h : oS a = oS b) (h0 : oS a ≠ 0) (h2 : ¬ (a.c = 2 ∨ b.c = 2)) : oV a x b y = oS a * sgn ((oN a x * oD b y : Nat) : Int) ((oN b y * oD a x : Nat) : Int) := by
  unfold oV
  rw [if_neg (show ¬ (oS a ≠ oS b ∨ oS a = 0) by omega), if_neg h2]
theorem oV_swap (a : Dat) (x : Nat) (b : Dat) (y : Nat) : oV b y a x = - oV a x b y := by
  by_cases h : oS a = oS b
  · by_cases h0 : oS b = 0
    · rw [oV_a (Or.inr h0), oV_a (Or.inr (h.trans h0)), h, h0, sgn_self]
      rfl
    · have h0' : oS a ≠ 0 := fun q => h0 (h.symm.trans q)
      by_cases h2 : a.c = 2 ∨ b.c = 2
      · rw [oV_b h h0' h2, oV_b h.symm h0 h2.symm, h, sgn_neg a.c b.c, Int.mul_neg]
      · rw [oV_c h h0' h2, oV_c h.symm h0 (fun q => h2 q.symm), h, sgn_neg ((oN a x * oD b y : Nat) : Int), Int.mul_neg]
  · rw [oV_a (Or.inl h), oV_a (Or.inl (fun q => h q.symm)), sgn_neg (oS a)]
/-- what a pattern means, in any format -/
def mD (n : Int) (B : Nat) : Dat := if binN n then unD n B else vUD n B
def mX (n : Int) : Nat := if binN n then 2 else 10
def mE (n : Int) (B : Nat) : Int := if binN n then unE n B else vUE n B
/-- Mixed, Compare -/
def oMc (f : Int) (A : Nat) (g : Int) (B : Nat) : Int := if mE f A ≠ 0 ∨ mE g B ≠ 0 then 0 else if (mD f A).c = 3 ∨ (mD g B).c = 3 then 0 else oV (mD f A) (mX f) (mD g B) (mX g)
def oMo (f : Int) (A : Nat) (g : Int) (B : Nat) : Bool := if mE f A ≠ 0 ∨ mE g B ≠ 0 then false else if (mD f A).c = 3 ∨ (mD g B).c = 3 then false else true
def oME (f : Int) (A : Nat) (g : Int) (B : Nat) : Int := if mE f A ≠ 0 ∨ mE g B ≠ 0 then 1 else 0
def oG (d : Dat) : Int := if d.s then -1 else 1
/-- data of one format, whose exponents are at least l -/
def oK (l : Int) (d : Dat) : Prop := (d.c = 1 ∧ d.g = false ∧ l ≤ d.x) ∨ (d.c = 2 ∧ d.g = false ∧ d.x = 0 ∧ d.k = 0) ∨ (d.c = 3 ∧ d.x = 0)
/-- a finite datum's coefficient at the least exponent -/
def oI (l : Int) (x : Nat) (d : Dat) : Nat := d.k * x ^ (d.x - l).toNat
theorem oI_cmp {l : Int} {x : Nat} (hx : 0 < x) {a b : Dat} (ha : l ≤ a.x) (hb : l ≤ b.x) :
    sgn ((oN a x * oD b x : Nat) : Int) ((oN b x * oD a x : Nat) : Int) = sgn (oI l x a : Int) (oI l x b : Int) := by
  unfold oN oD oI
  rw [Nat.one_mul, Nat.one_mul, Nat.mul_assoc, Nat.mul_assoc, ← Nat.pow_add, ← Nat.pow_add]
  rcases Int.le_total 0 (l + (-a.x).toNat + (-b.x).toNat) with h | h
  · obtain ⟨p, hp⟩ : ∃ p : Nat, (p : Int) = l + (-a.x).toNat + (-b.x).toNat := ⟨(l + (-a.x).toNat + (-b.x).toNat).toNat, by omega⟩
    rw [show a.x.toNat + (-b.x).toNat = (a.x - l).toNat + p by omega, show b.x.toNat + (-a.x).toNat = (b.x - l).toNat + p by omega, Nat.pow_add, Nat.pow_add, ← Nat.mul_assoc, ← Nat.mul_assoc]
    exact sgn_nat _ (Nat.pow_pos hx)
  · obtain ⟨p, hp⟩ : ∃ p : Nat, (p : Int) = -(l + (-a.x).toNat + (-b.x).toNat) := ⟨(-(l + (-a.x).toNat + (-b.x).toNat)).toNat, by omega⟩
    rw [show (a.x - l).toNat = a.x.toNat + (-b.x).toNat + p by omega, show (b.x - l).toNat = b.x.toNat + (-a.x).toNat + p by omega, Nat.pow_add x (a.x.toNat + (-b.x).toNat), Nat.pow_add x (b.x.toNat + (-a.x).toNat), ← Nat.mul_assoc, ← Nat.mul_assoc]
    exact (sgn_nat _ (Nat.pow_pos hx)).symm
theorem oI_pos {l : Int} {x : Nat} (hx : 0 < x) {d : Dat} (h : d.k ≠ 0) : 0 < oI l x d := Nat.mul_pos (Nat.pos_of_ne_zero h) (Nat.pow_pos hx)
theorem oG_sq (d : Dat) : (d.s = true ∧ oG d = -1) ∨ (d.s = false ∧ oG d = 1) := by
  unfold oG
  cases d.s
  · exact Or.inr ⟨rfl, rfl⟩
  · exact Or.inl ⟨rfl, rfl⟩
theorem sgn_G {d : Dat} (a b : Int) : sgn (oG d * a) (oG d * b) = oG d * sgn a b := by
  rcases oG_sq d with ⟨_, h⟩ | ⟨_, h⟩
  · rw [h, Int.neg_mul, Int.neg_mul, Int.neg_mul, Int.one_mul, Int.one_mul, Int.one_mul, sgn_minus]
  · rw [h, Int.one_mul, Int.one_mul, Int.one_mul]
/-- by value, among those of one sign -/
theorem oV_one {l : Int} {x : Nat} (hx : 0 < x) {a b : Dat} (ha : oK l a) (hb : oK l b) (hs : a.s = b.s) (h3 : a.c ≠ 3) (h3' : b.c ≠ 3) :
    oV a x b x = if a.c ≠ b.c then oG a * sgn a.c b.c else if a.c = 1 then oG a * sgn (oI l x a : Int) (oI l x b : Int) else 0 := by
  have hG : oG b = oG a := by unfold oG; rw [hs]
  have sA : oS a = if a.c = 1 ∧ a.k = 0 then 0 else oG a := rfl
  have sB : oS b = if b.c = 1 ∧ b.k = 0 then 0 else oG a := by rw [← hG]; rfl
  have hg : oG a = 1 ∨ oG a = -1 := by rcases oG_sq a with ⟨_, h⟩ | ⟨_, h⟩ <;> omega
  have hc1 : a.c = 1 ∨ a.c = 2 := by rcases ha with h | h | h <;> omega
  have hc2 : b.c = 1 ∨ b.c = 2 := by rcases hb with h | h | h <;> omega
  have g1 : sgn 1 2 = -1 := by decide
  have g2 : sgn 2 1 = 1 := by decide
  have z0 : ∀ {d : Dat}, d.k = 0 → oI l x d = 0 := fun h => by unfold oI; rw [h, Nat.zero_mul]
  rcases hc1 with q1 | q1 <;> rcases hc2 with q2 | q2
  · -- both are finite
    rw [if_neg (fun h => h (q1.trans q2.symm)), if_pos q1]
    by_cases k1 : a.k = 0
    · rw [if_pos ⟨q1, k1⟩] at sA
      by_cases k2 : b.k = 0
      · rw [if_pos ⟨q2, k2⟩] at sB
        rw [oV_a (Or.inr sA), sA, sB, z0 k1, z0 k2, sgn_self]
        rw [show sgn ((0 : Nat) : Int) ((0 : Nat) : Int) = 0 from sgn_self _, Int.mul_zero]
      · rw [if_neg (fun h => k2 h.2)] at sB
        rw [oV_a (Or.inr sA), sA, sB, z0 k1]
        have := oI_pos (l := l) hx k2
        have e : sgn ((0 : Nat) : Int) (oI l x b : Int) = -1 := by unfold sgn; rw [if_pos (by omega)]
        rw [e]
        rcases hg with h | h <;> rw [h] <;> decide
    · rw [if_neg (fun h => k1 h.2)] at sA
      by_cases k2 : b.k = 0
      · rw [if_pos ⟨q2, k2⟩] at sB
        rw [oV_a (Or.inl (by rw [sA, sB]; omega)), sA, sB, z0 k2]
        have := oI_pos (l := l) hx k1
        have e : sgn (oI l x a : Int) ((0 : Nat) : Int) = 1 := by unfold sgn; rw [if_neg (by omega), if_pos (by omega)]
        rw [e]
        rcases hg with h | h <;> rw [h] <;> decide
      · rw [if_neg (fun h => k2 h.2)] at sB
        have l1 : l ≤ a.x := by rcases ha with h | h | h <;> omega
        have l2 : l ≤ b.x := by rcases hb with h | h | h <;> omega
        rw [oV_c (by rw [sA, sB]) (by rw [sA]; omega) (by omega), sA, oI_cmp hx l1 l2]
  · rw [if_pos (show a.c ≠ b.c by omega), q1, q2, g1]
    rw [if_neg (show ¬ (b.c = 1 ∧ b.k = 0) by omega)] at sB
    by_cases k1 : a.k = 0
    · rw [if_pos ⟨q1, k1⟩] at sA
      rw [oV_a (Or.inr sA), sA, sB]
      rcases hg with h | h <;> rw [h] <;> decide
    · rw [if_neg (fun h => k1 h.2)] at sA
      rw [oV_b (by rw [sA, sB]) (by rw [sA]; omega) (Or.inr q2), sA, q1, q2, g1]
  · rw [if_pos (show a.c ≠ b.c by omega), q1, q2, g2]
    rw [if_neg (show ¬ (a.c = 1 ∧ a.k = 0) by omega)] at sA
    by_cases k1 : b.k = 0
    · rw [if_pos ⟨q2, k1⟩] at sB
      rw [oV_a (Or.inl (by rw [sA, sB]; omega)), sA, sB]
      rcases hg with h | h <;> rw [h] <;> decide
    · rw [if_neg (fun h => k1 h.2)] at sB
      rw [oV_b (by rw [sA, sB]) (by rw [sA]; omega) (Or.inl q1), sA, q1, q2, g2]
  · rw [if_neg (show ¬ a.c ≠ b.c by omega), if_neg (show ¬ a.c = 1 by omega)]
    rw [if_neg (show ¬ (a.c = 1 ∧ a.k = 0) by omega)] at sA
    rw [if_neg (show ¬ (b.c = 1 ∧ b.k = 0) by omega)] at sB
    rw [oV_b (by rw [sA, sB]) (by rw [sA]; omega) (Or.inl q1), q1, q2, sgn_self, Int.mul_zero]
section
attribute [local irreducible] W4 NT NV

theorem nt_oneB {W : World} {g : Nat} (hg : g = W.heap.size) : NT 900 1 (.slice (some ⟨g, 0, none⟩) 1 1) (W.alloc (.cells #[.int .u64 1] 22)) := by
  have h := nt_un1 (W := W) (V := 1) (vi := 1) hg rfl (by decide) (by decide)
  unfold NT at h ⊢
  obtain ⟨g', k', c', z, h1, h2, h3⟩ := h
  exact ⟨g', k', c', z, h1, Nat.le_trans h2 (by decide), h3⟩
end
end Go.Proofs.YtgknbdehlmlipaaGreatDoor
