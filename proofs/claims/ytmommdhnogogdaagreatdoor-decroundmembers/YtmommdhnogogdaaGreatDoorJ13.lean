/-
  Texts that the proof leans on, joined: Va, Nw, Kn, Sd, Bv, Bp, Eq.
-/
import Derived.Test.YtmommdhnogogdaaGreatDoorJ1
import Derived.Test.YtmommdhnogogdaaGreatDoorJ12
import Derived.Test.YtmommdhnogogdaaGreatDoorJ9
import Derived.Deep.Cut
import Derived.Deep.CutRange
import Derived.DeepKeys
set_option linter.unusedVariables false
set_option linter.unusedSectionVars false
set_option linter.unusedSimpArgs false
set_option maxRecDepth 20000
namespace Go.Proofs.YtmommdhnogogdaaGreatDoor
open Go.RowKit

/-- a decimal format: T's bits, G's bits behind the five, declets, the least exponent, dense -/
structure DF where
  t : Nat
  w : Nat
  j : Nat
  l : Int
  dn : Bool
def DF.ok (f : DF) : Prop := (f.t = 20 ∧ f.w = 6 ∧ f.j = 2 ∧ f.l = -101) ∨ (f.t = 50 ∧ f.w = 8 ∧ f.j = 5 ∧ f.l = -398) ∨ (f.t = 110 ∧ f.w = 12 ∧ f.j = 11 ∧ f.l = -6176)
/-- the fields of a pattern -/
def vR (f : DF) (B : Nat) : Nat := B % 2 ^ f.t
def vG (f : DF) (B : Nat) : Nat := B / 2 ^ f.t % 2 ^ (f.w + 5)
def vS (f : DF) (B : Nat) : Bool := decide (B / 2 ^ (f.t + (f.w + 5)) % 2 = 1)
/-- the five bits -/
def vV (w G : Nat) : Nat := G / 2 ^ w
/-- the exponent's field, the first digit or bits -/
def vF (dn : Bool) (w G : Nat) : Nat :=
  if dn then (if vV w G < 24 then vV w G / 8 * 2 ^ w + G % 2 ^ w else vV w G / 2 % 4 * 2 ^ w + G % 2 ^ w)
  else (if vV w G < 24 then G / 8 else G / 2 % 2 ^ (w + 2))
def vL (dn : Bool) (w G : Nat) : Nat :=
  if dn then (if vV w G < 24 then vV w G % 8 else 8 + vV w G % 2) else (if vV w G < 24 then G % 8 else 8 + G % 2)
/-- the tail's number -/
def vT (f : DF) (R : Nat) : Nat := if f.dn then dlU f.j R else R
/-- what the first digit counts -/
def vQ (f : DF) : Nat := if f.dn then 10 ^ (3 * f.j) else 2 ^ f.t
/-- what fields mean -/
def vD (f : DF) (s : Bool) (G R : Nat) : Dat :=
  if vV f.w G = 30 then ⟨2, s, false, 0, 0⟩
  else if vV f.w G = 31 then ⟨3, s, decide (G / 2 ^ (f.w - 1) % 2 = 1), 0, if vT f R < 10 ^ (3 * f.j) then vT f R else 0⟩
  else ⟨1, s, false, (vF f.dn f.w G : Int) + f.l, if vL f.dn f.w G * vQ f + vT f R < 10 ^ (3 * f.j + 1) then vL f.dn f.w G * vQ f + vT f R else 0⟩
/-- what a pattern means -/
def vM (f : DF) (B : Nat) : Dat := vD f (vS f B) (vG f B) (vR f B)
/-- a datum is the format's -/
def vI (f : DF) (d : Dat) : Prop :=
  (d.c = 1 ∧ d.g = false ∧ d.k < 10 ^ (3 * f.j + 1) ∧ f.l ≤ d.x ∧ d.x ≤ f.l + 3 * 2 ^ f.w - 1) ∨ (d.c = 2 ∧ d.g = false ∧ d.k = 0 ∧ d.x = 0) ∨ (d.c = 3 ∧ d.x = 0 ∧ d.k < 10 ^ (3 * f.j))
/-- G of an exponent's field and a first digit -/
def vN (dn : Bool) (w E a : Nat) : Nat :=
  if dn then (if 8 ≤ a then 24 + E / 2 ^ w * 2 + a % 2 else E / 2 ^ w * 8 + a) * 2 ^ w + E % 2 ^ w
  else (if 8 ≤ a then 3 * 2 ^ (w + 3) + E * 2 + a % 2 else E * 8 + a)
/-- a datum's fields -/
def vPG (f : DF) (d : Dat) : Nat :=
  if d.c = 2 then 30 * 2 ^ f.w else if d.c = 3 then 31 * 2 ^ f.w + (if d.g then 2 ^ (f.w - 1) else 0)
  else vN f.dn f.w (d.x - f.l).toNat (d.k / vQ f)
def vPR (f : DF) (d : Dat) : Nat :=
  if d.c = 2 then 0 else if d.c = 3 then (if f.dn then dlP f.j d.k else d.k)
  else if f.dn then dlP f.j (d.k % 10 ^ (3 * f.j)) else d.k % 2 ^ f.t
/-- a datum's pattern -/
def vP (f : DF) (d : Dat) : Nat := (if d.s then 2 ^ (f.t + (f.w + 5)) else 0) + vPG f d * 2 ^ f.t + vPR f d

theorem ten3 (j : Nat) : (10 : Nat) ^ (3 * j) = 1000 ^ j := by rw [Nat.pow_mul]
theorem DF.ok.t10 {f : DF} (h : f.ok) : f.t = 10 * f.j := by
  rcases h with ⟨h1, h2, h3, h4⟩ | ⟨h1, h2, h3, h4⟩ | ⟨h1, h2, h3, h4⟩ <;> omega
theorem DF.ok.pt {f : DF} (h : f.ok) : 2 ^ f.t = 1024 ^ f.j := by rw [h.t10, Nat.pow_mul]
theorem vG_lt (f : DF) (B : Nat) : vG f B < 2 ^ (f.w + 5) := Nat.mod_lt _ (Nat.two_pow_pos _)
theorem vR_lt (f : DF) (B : Nat) : vR f B < 2 ^ f.t := Nat.mod_lt _ (Nat.two_pow_pos _)
/-- what a pattern means is the format's -/
theorem vD_is {f : DF} (h : f.ok) (s : Bool) {G R : Nat} (hG : G < 2 ^ (f.w + 5)) (hR : R < 2 ^ f.t) : vI f (vD f s G R) := by
  have hp : 0 < (10 : Nat) ^ (3 * f.j) := Nat.pow_pos (by decide)
  have hp' : 0 < (10 : Nat) ^ (3 * f.j + 1) := Nat.pow_pos (by decide)
  unfold vD
  by_cases h30 : vV f.w G = 30
  · rw [if_pos h30]; exact Or.inr (Or.inl ⟨rfl, rfl, rfl, rfl⟩)
  · rw [if_neg h30]
    by_cases h31 : vV f.w G = 31
    · rw [if_pos h31]
      refine Or.inr (Or.inr ⟨rfl, rfl, ?_⟩)
      show (if vT f R < 10 ^ (3 * f.j) then vT f R else 0) < 10 ^ (3 * f.j)
      split <;> omega
    · rw [if_neg h31]
      refine Or.inl ⟨rfl, rfl, ?_, ?_, ?_⟩
      · show (if vL f.dn f.w G * vQ f + vT f R < 10 ^ (3 * f.j + 1) then vL f.dn f.w G * vQ f + vT f R else 0) < 10 ^ (3 * f.j + 1)
        split <;> omega
      · show f.l ≤ (vF f.dn f.w G : Int) + f.l
        omega
      · show (vF f.dn f.w G : Int) + f.l ≤ f.l + 3 * 2 ^ f.w - 1
        have : vF f.dn f.w G < 3 * 2 ^ f.w := by
          unfold vF
          unfold vV at *
          rcases h with ⟨h1, h2, h3, h4⟩ | ⟨h1, h2, h3, h4⟩ | ⟨h1, h2, h3, h4⟩ <;> rw [h2] at hG h30 h31 ⊢ <;> cases f.dn <;> simp only [Bool.false_eq_true, if_false, if_true] <;> simp only [Nat.reducePow, Nat.reduceAdd] at * <;> split <;> omega
        have e : ((3 * 2 ^ f.w : Nat) : Int) = 3 * 2 ^ f.w := by simp
        omega
theorem vM_is {f : DF} (h : f.ok) (B : Nat) : vI f (vM f B) := vD_is h _ (vG_lt f B) (vR_lt f B)
theorem vPG_lt {f : DF} (h : f.ok) {d : Dat} (hd : vI f d) : vPG f d < 2 ^ (f.w + 5) := by
  have hq : d.c = 1 → d.k / vQ f ≤ 9 := fun h1 => by
    rcases hd with ⟨_, _, hk, _, _⟩ | ⟨h2, _⟩ | ⟨h2, _⟩
    · unfold vQ
      rcases h with ⟨h1, h2, h3, h4⟩ | ⟨h1, h2, h3, h4⟩ | ⟨h1, h2, h3, h4⟩ <;> rw [h3] at hk ⊢ <;> rw [h1] <;> cases f.dn <;> simp only [Bool.false_eq_true, if_false, if_true] <;> simp only [Nat.reducePow, Nat.reduceAdd, Nat.reduceMul] at * <;> omega
    · omega
    · omega
  unfold vPG
  rcases hd with ⟨c1, g1, hk, hx, hx'⟩ | ⟨c1, g1, hk, hx⟩ | ⟨c1, hx, hk⟩
  · have h9 := hq c1
    rw [if_neg (by omega), if_neg (by omega)]
    generalize d.k / vQ f = a at *
    have hE : (d.x - f.l).toNat < 3 * 2 ^ f.w := by
      have e : ((3 * 2 ^ f.w : Nat) : Int) = 3 * 2 ^ f.w := by simp
      omega
    generalize (d.x - f.l).toNat = E at *
    unfold vN
    rcases h with ⟨h1, h2, h3, h4⟩ | ⟨h1, h2, h3, h4⟩ | ⟨h1, h2, h3, h4⟩ <;> rw [h2] at hE ⊢ <;> cases f.dn <;> simp only [Bool.false_eq_true, if_false, if_true] <;> simp only [Nat.reducePow, Nat.reduceAdd, Nat.reduceMul] at * <;> split <;> omega
  · rw [if_pos c1]
    rcases h with ⟨h1, h2, h3, h4⟩ | ⟨h1, h2, h3, h4⟩ | ⟨h1, h2, h3, h4⟩ <;> rw [h2] <;> decide
  · rw [if_neg (by omega), if_pos c1]
    rcases h with ⟨h1, h2, h3, h4⟩ | ⟨h1, h2, h3, h4⟩ | ⟨h1, h2, h3, h4⟩ <;> rw [h2] <;> cases d.g <;> decide
theorem vPR_lt {f : DF} (h : f.ok) {d : Dat} (hd : vI f d) : vPR f d < 2 ^ f.t := by
  unfold vPR
  rcases hd with ⟨c1, g1, hk, hx, hx'⟩ | ⟨c1, g1, hk, hx⟩ | ⟨c1, hx, hk⟩
  · rw [if_neg (by omega), if_neg (by omega)]
    split
    · rw [h.pt]; exact dlP_lt _ _
    · exact Nat.mod_lt _ (Nat.two_pow_pos _)
  · rw [if_pos c1]; exact Nat.two_pow_pos _
  · rw [if_neg (by omega), if_pos c1]
    split
    · rw [h.pt]; exact dlP_lt _ _
    · refine Nat.lt_of_lt_of_le hk ?_
      rcases h with ⟨h1, h2, h3, h4⟩ | ⟨h1, h2, h3, h4⟩ | ⟨h1, h2, h3, h4⟩ <;> rw [h1, h3] <;> decide
theorem vP_lt {f : DF} (h : f.ok) {d : Dat} (hd : vI f d) : vP f d < 2 ^ (f.t + (f.w + 6)) := by
  have h1 := vPG_lt h hd
  have h2 := vPR_lt h hd
  unfold vP
  have e5 : 2 ^ (f.t + (f.w + 5)) = 2 ^ (f.w + 5) * 2 ^ f.t := by rw [← Nat.pow_add, Nat.add_comm]
  have e6 : 2 ^ (f.t + (f.w + 6)) = 2 * (2 ^ (f.w + 5) * 2 ^ f.t) := by rw [← Nat.pow_add, ← Nat.pow_succ']; congr 1; omega
  have h3 : (if d.s then 2 ^ (f.t + (f.w + 5)) else 0) ≤ 2 ^ (f.w + 5) * 2 ^ f.t := by split <;> omega
  have h4 : (vPG f d + 1) * 2 ^ f.t ≤ 2 ^ (f.w + 5) * 2 ^ f.t := Nat.mul_le_mul_right _ h1
  rw [Nat.add_mul, Nat.one_mul] at h4
  rw [e6]
  omega
theorem vP_256 {f : DF} (h : f.ok) {d : Dat} (hd : vI f d) : vP f d < 2 ^ 256 := by
  refine Nat.lt_of_lt_of_le (vP_lt h hd) (Nat.pow_le_pow_right (by decide) ?_)
  rcases h with ⟨h1, h2, h3, h4⟩ | ⟨h1, h2, h3, h4⟩ | ⟨h1, h2, h3, h4⟩ <;> omega
theorem vM_256 {f : DF} (h : f.ok) (B : Nat) : (vM f B).k < 2 ^ 256 := by
  have hi := vM_is h B
  have e : (10 : Nat) ^ (3 * f.j + 1) ≤ 10 ^ 34 := Nat.pow_le_pow_right (by decide) (by rcases h with ⟨h1, h2, h3, h4⟩ | ⟨h1, h2, h3, h4⟩ | ⟨h1, h2, h3, h4⟩ <;> omega)
  have e' : (10 : Nat) ^ (3 * f.j) ≤ 10 ^ 34 := Nat.pow_le_pow_right (by decide) (by rcases h with ⟨h1, h2, h3, h4⟩ | ⟨h1, h2, h3, h4⟩ | ⟨h1, h2, h3, h4⟩ <;> omega)
  have e2 : (10 : Nat) ^ 34 < 2 ^ 256 := by decide
  rcases hi with ⟨_, _, hk, _⟩ | ⟨_, _, hk, _⟩ | ⟨_, _, hk⟩ <;> omega
end Go.Proofs.YtmommdhnogogdaaGreatDoor

namespace Go.Proofs.YtmommdhnogogdaaGreatDoor
open Go.RowKit

theorem bnx {w0 W W' : World} (h : Below w0.heap.size w0 W) (hb : Below W.heap.size W W') : Below w0.heap.size w0 W' := h.trans (hb.mono h.size)
/-- how many bits a number has -/
def bl (V : Nat) : Nat := if V = 0 then 0 else Nat.log2 V + 1
theorem bl_le {V k : Nat} : bl V ≤ k ↔ V < 2 ^ k := by
  unfold bl
  by_cases h : V = 0
  · subst h; simp; exact Nat.two_pow_pos k
  · rw [if_neg h]
    have := Nat.log2_lt h (k := k)
    omega
theorem bl_ge {V k : Nat} : k < bl V ↔ 2 ^ k ≤ V := by
  have := bl_le (V := V) (k := k)
  omega
theorem bl_zero {V : Nat} : bl V = 0 ↔ V = 0 := by
  unfold bl; by_cases h : V = 0 <;> simp [h]
theorem bl_eq {V L : Nat} (h1 : 2 ^ (L - 1) ≤ V) (h2 : V < 2 ^ L) : bl V = L := by
  have a := bl_le.2 h2
  by_cases h : L = 0
  · omega
  · have b := bl_ge.2 h1
    omega
/-- a number in a list of words, at most K of them -/
def Nt (K V : Nat) (v : Value) (w : World) : Prop := ∃ a k cap z, v = .slice a k cap ∧ k ≤ K ∧ Num w a k cap z ∧ val z k = (V : Int)
theorem Nt.next {K V : Nat} {v : Value} {w w' : World} (h : Nt K V v w) (hb : Below w.heap.size w w') : Nt K V v w' := by
  obtain ⟨a, k, cap, z, h1, h2, h3, h4⟩ := h
  exact ⟨a, k, cap, z, h1, h2, h3.next hb, h4⟩
theorem Nt.more {K K' V : Nat} {v : Value} {w : World} (h : Nt K V v w) (hk : K ≤ K') : Nt K' V v w := by
  obtain ⟨a, k, cap, z, h1, h2, h3, h4⟩ := h
  exact ⟨a, k, cap, z, h1, by omega, h3, h4⟩
/-- without noughts at its end -/
def Nz (K V : Nat) (v : Value) (w : World) : Prop := ∃ a k cap z, v = .slice a k cap ∧ k ≤ K ∧ Num w a k cap z ∧ val z k = (V : Int) ∧ sizeL z k = k
theorem Nz.next {K V : Nat} {v : Value} {w w' : World} (h : Nz K V v w) (hb : Below w.heap.size w w') : Nz K V v w' := by
  obtain ⟨a, k, cap, z, h1, h2, h3, h4, h5⟩ := h
  exact ⟨a, k, cap, z, h1, h2, h3.next hb, h4, h5⟩
theorem Nz.nt {K V : Nat} {v : Value} {w : World} (h : Nz K V v w) : Nt K V v w := by
  obtain ⟨a, k, cap, z, h1, h2, h3, h4, h5⟩ := h
  exact ⟨a, k, cap, z, h1, h2, h3, h4⟩
theorem size_zero {z : Nat → Int} {k V : Nat} (hz : Words z) (hv : val z k = (V : Int)) : sizeL z k = 0 ↔ V = 0 := by
  constructor
  · intro h
    have := val_bare (x := z) k
    rw [h] at this
    have h0 : val z 0 = 0 := rfl
    omega
  · intro h
    subst h
    rcases Nat.eq_zero_or_pos (sizeL z k) with h | h
    · exact h
    · exfalso
      have := val_longer (x := z) (y := z) hz hz (n := 0) (m := sizeL z k) h (sizeL_sizeL z k)
      rw [val_bare] at this
      have h0 : val z 0 = 0 := rfl
      omega
theorem len_bl {z : Nat → Int} {k V : Nat} (hz : Words z) (hv : val z k = (V : Int)) : lenL z k = (bl V : Int) := by
  rcases Nat.eq_zero_or_pos (sizeL z k) with h | h
  · have h0 := (size_zero hz hv).1 h
    unfold lenL; rw [if_pos h, h0]; rfl
  · obtain ⟨L, h1, h2, h3⟩ := len_bd hz h
    rw [hv] at h2 h3
    have e : bl V = L + 1 := by
      have e1 : ((2 : Int) ^ L) = ((2 ^ L : Nat) : Int) := by simp
      have e2 : ((2 : Int) ^ (L + 1)) = ((2 ^ (L + 1) : Nat) : Int) := by simp
      rw [e1] at h2
      rw [e2] at h3
      exact bl_eq (by rw [Nat.add_sub_cancel]; omega) (by omega)
    rw [e, h1]; omega
/-- how many words -/
theorem size_bl {z : Nat → Int} {k V m : Nat} (hz : Words z) (hv : val z k = (V : Int)) : sizeL z k ≤ m ↔ bl V ≤ 64 * m := by
  have hl := len_bl hz hv
  unfold lenL at hl
  rcases Nat.eq_zero_or_pos (sizeL z k) with h | h
  · rw [if_pos h] at hl; omega
  · rw [if_neg (by omega)] at hl
    have ht := sizeL_top k h
    have hw := hz (sizeL z k - 1)
    have hb := bitLen_spec (z (sizeL z k - 1)).toNat (by omega) (by omega)
    omega
theorem nlen_v {K V : Nat} {v : Value} {w : World} (hK : K < 100000000) (h : Nt K V v w) :
    Calls Tryz.prog 24 #[v] w fun e w' => e = .returned (.int .i64 (bl V : Int)) ∧ w = w' := by
  obtain ⟨a, k, cap, z, rfl, hk, hN, hv⟩ := h
  refine (nlen_any a k cap z w (by omega) hN).mono fun e w' ⟨h1, h2⟩ => ⟨?_, h2⟩
  rw [h1, len_bl hN.2.2.1 hv]
theorem ncmp_v {K K' V V' : Nat} {v v' : Value} {w : World} (hK : K < 100000000) (hK' : K' < 100000000) (h : Nt K V v w) (h' : Nt K' V' v' w) :
    Calls Tryz.prog 30 #[v, v'] w fun e w' => e = .returned (.int .i64 (sgn (V : Int) (V' : Int))) ∧ Below w.heap.size w w' := by
  obtain ⟨a, k, cap, z, rfl, hk, hN, hv⟩ := h
  obtain ⟨a', k', cap', z', rfl, hk', hN', hv'⟩ := h'
  have := ncmp_b a a' k cap k' cap' z z' w (by omega) (by omega) hN hN'
  rw [hv, hv'] at this
  exact this
theorem nadd_v {K K' V V' : Nat} {v v' : Value} {w : World} (hK : K < 100000000) (hK' : K' < 100000000) (h : Nt K V v w) (h' : Nt K' V' v' w) :
    Calls Tryz.prog 68 #[v, v'] w fun e w' => ∃ r, e = .returned r ∧ Nz (K + K' + 1) (V + V') r w' ∧ Below w.heap.size w w' := by
  obtain ⟨a, k, cap, z, rfl, hk, hN, hv⟩ := h
  obtain ⟨a', k', cap', z', rfl, hk', hN', hv'⟩ := h'
  have s1 := sizeL_le z k
  have s2 := sizeL_le z' k'
  refine (nadd_any a a' k cap k' cap' z z' w (by omega) (by omega) hN hN').mono fun e w' ⟨g, k2, cap2, z2, h1, h2, h3, h4, h5, h6⟩ => ⟨_, h1, ⟨_, k2, cap2, z2, rfl, by omega, h3, ?_, h5⟩, h6⟩
  rw [h4, hv, hv']; omega
theorem ndiv_v {K K' V V' : Nat} {v v' : Value} {w : World} (hK : K < 100000000) (hK' : K' < 100000000) (h : Nt K V v w) (h' : Nt K' V' v' w) (hb : bl V ≤ 128000) (hb' : bl V' ≤ 128000) (h0 : V' ≠ 0) :
    Calls Tryz.prog 66 #[v, v'] w fun e w' => ∃ q r, e = .returned (.tuple #[q, r, .int .i64 0]) ∧ Nz 2001 (V / V') q w' ∧ Nz 2001 (V % V') r w' ∧ Below w.heap.size w w' := by
  obtain ⟨a, k, cap, z, rfl, hk, hN, hv⟩ := h
  obtain ⟨a', k', cap', z', rfl, hk', hN', hv'⟩ := h'
  have s1 := (size_bl (m := 2000) hN.2.2.1 hv).2 (by omega)
  have s2 := (size_bl (m := 2000) hN'.2.2.1 hv').2 (by omega)
  have s3 : 0 < sizeL z' k' := Nat.pos_of_ne_zero fun e => h0 ((size_zero hN'.2.2.1 hv').1 e)
  refine (ndiv_any a a' k cap k' cap' z z' w (by omega) (by omega) hN hN' s1 s2 s3).mono fun e w' ⟨o, k2, cap2, z2, o', k3, cap3, z3, h1, h2, h3, h4, h5, h6, h7, h8, h9, h10⟩ => ⟨_, _, h1, ⟨_, _, _, _, rfl, h2, h4, ?_, h8⟩, ⟨_, _, _, _, rfl, h3, h5, ?_, h9⟩, h10⟩
  · rw [h6, hv, hv']; simp
  · rw [h7, hv, hv']; simp
end Go.Proofs.YtmommdhnogogdaaGreatDoor

namespace Go.Proofs.YtmommdhnogogdaaGreatDoor
open Go.RowKit

def knB (d : Int) : Prop := 0 ≤ d ∧ d ≤ 4
instance (d : Int) : Decidable (knB d) := inferInstanceAs (Decidable (_ ∧ _))
theorem known_any (d : Int) (w : World) : Calls Tryz.prog 61 #[.int .i64 d] w fun e w' => e = .returned (.bool (decide (knB d))) ∧ w = w' := by
  by_cases h1 : 0 ≤ d
  · by_cases h2 : d ≤ 4
    · rw [decide_eq_true (show knB d from ⟨h1, h2⟩)]
      go_enter Tryz.func61, Tryz.ntmps61
      go_wp2
      go_ret
      exact ⟨rfl, rfl⟩
    · rw [decide_eq_false (show ¬ knB d from fun h => h2 h.2)]
      go_enter Tryz.func61, Tryz.ntmps61
      go_wp2
      go_ret
      exact ⟨rfl, rfl⟩
  · rw [decide_eq_false (show ¬ knB d from fun h => h1 h.1)]
    go_enter Tryz.func61, Tryz.ntmps61
    go_wp2
    go_ret
    exact ⟨rfl, rfl⟩
/-- does what overflows become infinite -/
def inB (d : Int) (s : Bool) : Bool := if d = 0 ∨ d = 1 then true else if d = 3 then !s else if d = 4 then s else false
set_option maxHeartbeats 400000 in
theorem infinite_any (d : Int) (s : Bool) (w : World) : Calls Tryz.prog 72 #[.int .i64 d, .bool s] w fun e w' => e = .returned (.bool (inB d s)) ∧ w = w' := by
  by_cases h0 : d = 0
  · subst h0
    go_enter Tryz.func72, Tryz.ntmps72
    go_wp2
    go_ret
    exact ⟨rfl, rfl⟩
  · by_cases h1 : d = 1
    · subst h1
      go_enter Tryz.func72, Tryz.ntmps72
      go_wp2
      go_ret
      exact ⟨rfl, rfl⟩
    · by_cases h3 : d = 3
      · subst h3
        go_enter Tryz.func72, Tryz.ntmps72
        go_wp2
        go_ret
        exact ⟨rfl, rfl⟩
      · by_cases h4 : d = 4
        · subst h4
          go_enter Tryz.func72, Tryz.ntmps72
          go_wp2
          go_ret
          exact ⟨rfl, rfl⟩
        · have e : inB d s = false := by unfold inB; simp [h0, h1, h3, h4]
          have b0 : (d == 0) = false := by simpa using h0
          have b1 : (d == 1) = false := by simpa using h1
          have b3 : (d == 3) = false := by simpa using h3
          have b4 : (d == 4) = false := by simpa using h4
          rw [e]
          go_enter Tryz.func72, Tryz.ntmps72
          go_wp2
          go_ret
          exact ⟨rfl, rfl⟩
/-- is the neighbour farther from nought taken -/
def faB (d : Int) (s odd : Bool) (R D : Nat) : Bool := if R = 0 then false else if d = 0 then decide (D < R + R) || (decide (R + R = D) && odd) else if d = 1 then decide (D ≤ R + R) else inB d s
theorem sgn_ways (a b : Int) : (a < b ∧ sgn a b = -1) ∨ (a = b ∧ sgn a b = 0) ∨ (b < a ∧ sgn a b = 1) := by
  unfold sgn
  by_cases h : a < b
  · exact Or.inl ⟨h, if_pos h⟩
  · by_cases h' : b < a
    · exact Or.inr (Or.inr ⟨h', by rw [if_neg h, if_pos h']⟩)
    · exact Or.inr (Or.inl ⟨by omega, by rw [if_neg h, if_neg h']⟩)
section
variable (d : Int) (s odd : Bool) (R D : Nat) (vr vd : Value) (w : World)
  (c26 : ∀ W, Below w.heap.size w W → Calls Tryz.prog 24 #[vr] W fun e w' => e = .returned (.int .i64 (bl R : Int)) ∧ W = w')
include c26
set_option maxHeartbeats 400000 in
theorem far_zero (h : R = 0) : Calls Tryz.prog 67 #[.int .i64 d, .bool s, .bool odd, vr, vd] w fun e w' => e = .returned (.bool false) ∧ Below w.heap.size w w' := by
  have hb : (((bl R : Nat) : Int) == 0) = true := by rw [h]; decide
  go_enter Tryz.func67, Tryz.ntmps67
  go_wp2_with (go_at_call 24; refine (c26 _ bgo).mono ?_; rintro e w1 ⟨rfl, rfl⟩)
  go_ret
  exact ⟨rfl, bgo⟩
variable (hv : Int) (hR : (((bl R : Nat) : Int) == 0) = false)
  (c61 : ∀ W, Below w.heap.size w W → Calls Tryz.prog 68 #[vr, vr] W fun e w' => ∃ r, e = .returned r ∧ (∀ W', Below w'.heap.size w' W' → Calls Tryz.prog 30 #[r, vd] W' fun e w'' => e = .returned (.int .i64 hv) ∧ Below W'.heap.size W' w'') ∧ Below W.heap.size W w')
include hR c61
set_option maxHeartbeats 400000 in
theorem far_0g (h : 0 < hv) : Calls Tryz.prog 67 #[.int .i64 0, .bool s, .bool odd, vr, vd] w fun e w' => e = .returned (.bool true) ∧ Below w.heap.size w w' := by
  go_enter Tryz.func67, Tryz.ntmps67
  go_wp2_with (first
    | (go_at_call 24; refine (c26 _ bgo).mono ?_; rintro e w1 ⟨rfl, rfl⟩)
    | (go_at_call 68; refine (c61 _ bgo).mono ?_; rintro e w2 ⟨v2, rfl, c58, hb2⟩; have hA2 := bnx (w0 := w) bgo hb2)
    | (go_at_call 30; refine (c58 _ (Below.refl _ _)).mono ?_; rintro e w3 ⟨rfl, hb3⟩; have hA3 := bnx (w0 := w) hA2 hb3)
    | (go_at_call 72; refine (infinite_any _ _ _).mono ?_; rintro e w4 ⟨rfl, rfl⟩))
  go_ret
  exact ⟨by first | rfl | (simp; omega), bgo⟩
set_option maxHeartbeats 400000 in
theorem far_0e (h : hv = 0) : Calls Tryz.prog 67 #[.int .i64 0, .bool s, .bool odd, vr, vd] w fun e w' => e = .returned (.bool odd) ∧ Below w.heap.size w w' := by
  subst h
  go_enter Tryz.func67, Tryz.ntmps67
  go_wp2_with (first
    | (go_at_call 24; refine (c26 _ bgo).mono ?_; rintro e w1 ⟨rfl, rfl⟩)
    | (go_at_call 68; refine (c61 _ bgo).mono ?_; rintro e w2 ⟨v2, rfl, c58, hb2⟩; have hA2 := bnx (w0 := w) bgo hb2)
    | (go_at_call 30; refine (c58 _ (Below.refl _ _)).mono ?_; rintro e w3 ⟨rfl, hb3⟩; have hA3 := bnx (w0 := w) hA2 hb3)
    | (go_at_call 72; refine (infinite_any _ _ _).mono ?_; rintro e w4 ⟨rfl, rfl⟩))
  go_ret
  exact ⟨by first | rfl | (simp; omega), bgo⟩
set_option maxHeartbeats 400000 in
theorem far_0l (h : ¬ 0 < hv) (h1 : (hv == 0) = false) : Calls Tryz.prog 67 #[.int .i64 0, .bool s, .bool odd, vr, vd] w fun e w' => e = .returned (.bool false) ∧ Below w.heap.size w w' := by
  go_enter Tryz.func67, Tryz.ntmps67
  go_wp2_with (first
    | (go_at_call 24; refine (c26 _ bgo).mono ?_; rintro e w1 ⟨rfl, rfl⟩)
    | (go_at_call 68; refine (c61 _ bgo).mono ?_; rintro e w2 ⟨v2, rfl, c58, hb2⟩; have hA2 := bnx (w0 := w) bgo hb2)
    | (go_at_call 30; refine (c58 _ (Below.refl _ _)).mono ?_; rintro e w3 ⟨rfl, hb3⟩; have hA3 := bnx (w0 := w) hA2 hb3)
    | (go_at_call 72; refine (infinite_any _ _ _).mono ?_; rintro e w4 ⟨rfl, rfl⟩))
  go_ret
  exact ⟨by first | rfl | (simp; omega), bgo⟩
set_option maxHeartbeats 400000 in
theorem far_1g (h : 0 ≤ hv) : Calls Tryz.prog 67 #[.int .i64 1, .bool s, .bool odd, vr, vd] w fun e w' => e = .returned (.bool true) ∧ Below w.heap.size w w' := by
  go_enter Tryz.func67, Tryz.ntmps67
  go_wp2_with (first
    | (go_at_call 24; refine (c26 _ bgo).mono ?_; rintro e w1 ⟨rfl, rfl⟩)
    | (go_at_call 68; refine (c61 _ bgo).mono ?_; rintro e w2 ⟨v2, rfl, c58, hb2⟩; have hA2 := bnx (w0 := w) bgo hb2)
    | (go_at_call 30; refine (c58 _ (Below.refl _ _)).mono ?_; rintro e w3 ⟨rfl, hb3⟩; have hA3 := bnx (w0 := w) hA2 hb3)
    | (go_at_call 72; refine (infinite_any _ _ _).mono ?_; rintro e w4 ⟨rfl, rfl⟩))
  go_ret
  exact ⟨by first | rfl | (simp; omega), bgo⟩
set_option maxHeartbeats 400000 in
theorem far_1l (h : ¬ 0 ≤ hv) : Calls Tryz.prog 67 #[.int .i64 1, .bool s, .bool odd, vr, vd] w fun e w' => e = .returned (.bool false) ∧ Below w.heap.size w w' := by
  go_enter Tryz.func67, Tryz.ntmps67
  go_wp2_with (first
    | (go_at_call 24; refine (c26 _ bgo).mono ?_; rintro e w1 ⟨rfl, rfl⟩)
    | (go_at_call 68; refine (c61 _ bgo).mono ?_; rintro e w2 ⟨v2, rfl, c58, hb2⟩; have hA2 := bnx (w0 := w) bgo hb2)
    | (go_at_call 30; refine (c58 _ (Below.refl _ _)).mono ?_; rintro e w3 ⟨rfl, hb3⟩; have hA3 := bnx (w0 := w) hA2 hb3)
    | (go_at_call 72; refine (infinite_any _ _ _).mono ?_; rintro e w4 ⟨rfl, rfl⟩))
  go_ret
  exact ⟨by first | rfl | (simp; omega), bgo⟩
set_option maxHeartbeats 400000 in
theorem far_d (h0 : (d == 0) = false) (h1 : (d == 1) = false) : Calls Tryz.prog 67 #[.int .i64 d, .bool s, .bool odd, vr, vd] w fun e w' => e = .returned (.bool (inB d s)) ∧ Below w.heap.size w w' := by
  go_enter Tryz.func67, Tryz.ntmps67
  go_wp2_with (first
    | (go_at_call 24; refine (c26 _ bgo).mono ?_; rintro e w1 ⟨rfl, rfl⟩)
    | (go_at_call 68; refine (c61 _ bgo).mono ?_; rintro e w2 ⟨v2, rfl, c58, hb2⟩; have hA2 := bnx (w0 := w) bgo hb2)
    | (go_at_call 30; refine (c58 _ (Below.refl _ _)).mono ?_; rintro e w3 ⟨rfl, hb3⟩; have hA3 := bnx (w0 := w) hA2 hb3)
    | (go_at_call 72; refine (infinite_any _ _ _).mono ?_; rintro e w4 ⟨rfl, rfl⟩))
  go_ret
  exact ⟨by first | rfl | (simp; omega), bgo⟩
end
theorem farther_v (d : Int) (s odd : Bool) {K K' R D : Nat} {vr vd : Value} {w : World} (hK : K < 1000000) (hK' : K' < 1000000) (h : Nt K R vr w) (h' : Nt K' D vd w) :
    Calls Tryz.prog 67 #[.int .i64 d, .bool s, .bool odd, vr, vd] w fun e w' => e = .returned (.bool (faB d s odd R D)) ∧ Below w.heap.size w w' := by
  have c26 := fun W (hb : Below w.heap.size w W) => nlen_v (by omega) (h.next hb)
  unfold faB
  by_cases hz : R = 0
  · rw [if_pos hz]; exact far_zero d s odd R vr vd w c26 hz
  · rw [if_neg hz]
    have hR : (((bl R : Nat) : Int) == 0) = false := by
      have : bl R ≠ 0 := fun e => hz (bl_zero.1 e)
      rw [beq_eq_false_iff_ne]; omega
    have c61 : ∀ W, Below w.heap.size w W → Calls Tryz.prog 68 #[vr, vr] W fun e w' => ∃ r, e = .returned r ∧ (∀ W', Below w'.heap.size w' W' → Calls Tryz.prog 30 #[r, vd] W' fun e w'' => e = .returned (.int .i64 (sgn ((R + R : Nat) : Int) (D : Int))) ∧ Below W'.heap.size W' w'') ∧ Below W.heap.size W w' := fun W hb =>
      (nadd_v (by omega) (by omega) (h.next hb) (h.next hb)).mono fun e w' ⟨r, h1, h2, h3⟩ => ⟨r, h1, fun W' hb' => ncmp_v (by omega) (by omega) (h2.nt.next hb') (h'.next (bnx (bnx hb h3) hb')), h3⟩
    by_cases h0 : d = 0
    · subst h0
      rw [if_pos rfl]
      rcases sgn_ways ((R + R : Nat) : Int) (D : Int) with ⟨a, e⟩ | ⟨a, e⟩ | ⟨a, e⟩
      · rw [e] at c61
        rw [decide_eq_false (show ¬ D < R + R by omega), decide_eq_false (show ¬ R + R = D by omega)]
        exact far_0l s odd R vr vd w c26 (-1) hR c61 (by decide) (by decide)
      · rw [e] at c61
        rw [decide_eq_false (show ¬ D < R + R by omega), decide_eq_true (show R + R = D by omega), Bool.false_or, Bool.true_and]
        exact far_0e s odd R vr vd w c26 0 hR c61 rfl
      · rw [e] at c61
        rw [decide_eq_true (show D < R + R by omega), Bool.true_or]
        exact far_0g s odd R vr vd w c26 1 hR c61 (by decide)
    · rw [if_neg h0]
      by_cases h1 : d = 1
      · subst h1
        rw [if_pos rfl]
        rcases sgn_ways ((R + R : Nat) : Int) (D : Int) with ⟨a, e⟩ | ⟨a, e⟩ | ⟨a, e⟩
        · rw [e] at c61
          rw [decide_eq_false (show ¬ D ≤ R + R by omega)]
          exact far_1l s odd R vr vd w c26 (-1) hR c61 (by decide)
        · rw [e] at c61
          rw [decide_eq_true (show D ≤ R + R by omega)]
          exact far_1g s odd R vr vd w c26 0 hR c61 (by decide)
        · rw [e] at c61
          rw [decide_eq_true (show D ≤ R + R by omega)]
          exact far_1g s odd R vr vd w c26 1 hR c61 (by decide)
      · rw [if_neg h1]
        exact far_d d s odd R vr vd w c26 _ hR c61 (by simpa using h0) (by simpa using h1)
theorem raised_any (x s : Bool) (w : World) : Calls Tryz.prog 34 #[.bool x, .bool s] w fun e w' => e = .returned (.int .i64 (if x then 0 else if s then 12 else 8)) ∧ w = w' := by
  cases x <;> cases s
  all_goals (
    go_enter Tryz.func34, Tryz.ntmps34
    go_wp2
    go_ret
    exact ⟨rfl, rfl⟩)
end Go.Proofs.YtmommdhnogogdaaGreatDoor

namespace Go.Proofs.YtmommdhnogogdaaGreatDoor
open Go.RowKit

theorem nt_one {W : World} {g V : Nat} {vi : Int} (hg : g = W.heap.size) (hv : vi = (V : Int)) (hb : V < 18446744073709551616) : Nt 1 V (.slice (some ⟨g, 0, none⟩) 1 1) (W.alloc (.cells #[.int .u64 vi] 22)) := by
  subst hg hv
  exact ⟨_, 1, 1, oneW V, rfl, Nat.le_refl _, num_one W V (by omega), val_one1 V⟩
/-- the place of the highest bit of a fraction -/
def ld (N D : Nat) : Int := let p := (bl N : Int) - bl D; if N * 2 ^ (-p).toNat < D * 2 ^ p.toNat then p - 1 else p
end Go.Proofs.YtmommdhnogogdaaGreatDoor

namespace Go.Proofs.YtmommdhnogogdaaGreatDoor
open Go.RowKit

/-- a binary format -/
def binN (n : Int) : Prop := 1 ≤ n ∧ n ≤ 6
instance (n : Int) : Decidable (binN n) := inferInstanceAs (Decidable (_ ∧ _))
def fN (n : Int) : Nat := (precN n - 1).toNat
def eN (n : Int) : Nat := (expN n).toNat
/-- a binary format's pattern -/
def goodN (n : Int) (B : Nat) : Prop := binN n ∧ B < 2 ^ (fN n + eN n + 1)
instance (n : Int) (B : Nat) : Decidable (goodN n B) := inferInstanceAs (Decidable (_ ∧ _))
theorem A4_get (B : Nat) : ∀ i, i < 4 → (#[Value.int .u64 (W4 B 0), .int .u64 (W4 B 1), .int .u64 (W4 B 2), .int .u64 (W4 B 3)] : Array Value)[i]? = some (.int .u64 (W4 B i)) := fun i hi => by
  have : i = 0 ∨ i = 1 ∨ i = 2 ∨ i = 3 := by omega
  rcases this with rfl | rfl | rfl | rfl <;> rfl
end Go.Proofs.YtmommdhnogogdaaGreatDoor

namespace Go.Proofs.YtmommdhnogogdaaGreatDoor
open Go.RowKit

abbrev Z4 : Value := .agg #[.int .u64 0, .int .u64 0, .int .u64 0, .int .u64 0]
theorem Z4_eq : A4 0 = Z4 := by unfold A4 Z4; simp only [W4_zero]

/-- is a datum the format's? -/
def isD (f : Nat) (l m : Int) (d : Dat) : Prop :=
  (d.c = 1 ∧ d.g = false ∧ d.k < 2 ^ (f + 1) ∧ l ≤ d.x ∧ d.x ≤ m ∧ (2 ^ f ≤ d.k ∨ d.x = l)) ∨
  (d.c = 2 ∧ d.g = false ∧ d.x = 0 ∧ d.k = 0) ∨
  (d.c = 3 ∧ d.x = 0 ∧ d.k < 2 ^ (f - 1) ∧ (d.k ≠ 0 ∨ d.g = false))
instance (f : Nat) (l m : Int) (d : Dat) : Decidable (isD f l m d) := inferInstanceAs (Decidable (_ ∨ _ ∨ _))
end Go.Proofs.YtmommdhnogogdaaGreatDoor

namespace Go.Proofs.YtmommdhnogogdaaGreatDoor
open Go.RowKit

theorem eq24d (d : Nat) (a0 a1 a2 a3 b0 b1 b2 b3 : Int) (w : World) :
    Sem.run Tryz.prog (Op.equalIn (d + 2) 24 (.agg #[.int .u64 a0, .int .u64 a1, .int .u64 a2, .int .u64 a3]) (.agg #[.int .u64 b0, .int .u64 b1, .int .u64 b2, .int .u64 b3])) w = .ok (decide (a0 = b0 ∧ a1 = b1 ∧ a2 = b2 ∧ a3 = b3)) w := by
  obtain ⟨i22, hi⟩ : ∃ i, Tryz.prog.info? 22 = some i := ⟨_, rfl⟩
  have h := run_equalIn_array (P := Tryz.prog) w (d + 1) (t := 24) (e := 22) (n := 4) #[.int .u64 a0, .int .u64 a1, .int .u64 a2, .int .u64 a3] #[.int .u64 b0, .int .u64 b1, .int .u64 b2, .int .u64 b3] (by kernel_rfl) hi
  refine h.trans ?_
  have hc : Tryz.prog.cellsOf 22 = 1 := by kernel_rfl
  rw [hc]
  simp [List.range_succ, Op.eqItems, go_sem]
  by_cases h0 : a0 = b0 <;> by_cases h1 : a1 = b1 <;> by_cases h2 : a2 = b2 <;> by_cases h3 : a3 = b3 <;> simp [h0, h1, h2, h3]
theorem eq24 (a0 a1 a2 a3 b0 b1 b2 b3 : Int) (w : World) :
    Sem.run Tryz.prog (Op.equalIn 10000 24 (.agg #[.int .u64 a0, .int .u64 a1, .int .u64 a2, .int .u64 a3]) (.agg #[.int .u64 b0, .int .u64 b1, .int .u64 b2, .int .u64 b3])) w = .ok (decide (a0 = b0 ∧ a1 = b1 ∧ a2 = b2 ∧ a3 = b3)) w :=
  eq24d 9998 a0 a1 a2 a3 b0 b1 b2 b3 w
theorem eq27d (d : Nat) (c c' : Int) (s s' g g' : Bool) (x x' : Int) (a0 a1 a2 a3 b0 b1 b2 b3 : Int) (w : World) :
    Sem.run Tryz.prog (Op.equalIn (d + 2 + 1) 28 (.agg #[.int .i64 c, .bool s, .bool g, .int .i64 x, .int .u64 a0, .int .u64 a1, .int .u64 a2, .int .u64 a3]) (.agg #[.int .i64 c', .bool s', .bool g', .int .i64 x', .int .u64 b0, .int .u64 b1, .int .u64 b2, .int .u64 b3])) w = .ok (decide (c = c' ∧ s = s' ∧ g = g' ∧ x = x' ∧ a0 = b0 ∧ a1 = b1 ∧ a2 = b2 ∧ a3 = b3)) w := by
  have hst : Tryz.prog.stoodInHeld 28 = false := by kernel_rfl
  have h24 := eq24d d a0 a1 a2 a3 b0 b1 b2 b3 w
  have hp3 : ∀ (xs : Array Value) (o : Nat) (v : Value), xs[o]? = some v → Sem.run Tryz.prog (part 3 xs o) w = .ok v w := fun xs o v h => by simp [go_sem, part, h]
  rw [Op.equalIn]
  simp only [Sem.run_bind, run_underlying Tryz.underlying28, Result.andThen_ok]
  have hprog : Sem.run Tryz.prog program w = .ok Tryz.prog w := rfl
  rw [hprog]
  simp only [Result.andThen_ok, hst, Bool.false_eq_true, if_false]
  simp [List.forIn_toArray, List.forIn_cons, go_sem, h24]
  by_cases h1 : c = c'
  · by_cases h2 : s = s'
    · by_cases h3 : g = g'
      · by_cases h4 : x = x'
        · by_cases h5 : a0 = b0 <;> by_cases h6 : a1 = b1 <;> by_cases h7 : a2 = b2 <;> by_cases h8 : a3 = b3 <;> simp [h1, h2, h3, h4, h5, h6, h7, h8]
        · simp [h1, h2, h3, h4]
      · simp [h1, h2, h3]
    · simp [h1, h2]
  · simp [h1]
theorem eq27 (c c' : Int) (s s' g g' : Bool) (x x' : Int) (a0 a1 a2 a3 b0 b1 b2 b3 : Int) (w : World) :
    Sem.run Tryz.prog (Op.equalIn 10000 28 (.agg #[.int .i64 c, .bool s, .bool g, .int .i64 x, .int .u64 a0, .int .u64 a1, .int .u64 a2, .int .u64 a3]) (.agg #[.int .i64 c', .bool s', .bool g', .int .i64 x', .int .u64 b0, .int .u64 b1, .int .u64 b2, .int .u64 b3])) w = .ok (decide (c = c' ∧ s = s' ∧ g = g' ∧ x = x' ∧ a0 = b0 ∧ a1 = b1 ∧ a2 = b2 ∧ a3 = b3)) w :=
  eq27d 9997 c c' s s' g g' x x' a0 a1 a2 a3 b0 b1 b2 b3 w
end Go.Proofs.YtmommdhnogogdaaGreatDoor
