/-
  Texts that the proof leans on, joined: Sa, Sc, Sd9, Se9, Od, Sj9, Dec, Dig, Sk9, Sl9, Sm9.
-/
import Derived.Test.YtpfnfaekgaipjaaGreatDoorJ1
import Derived.Test.YtpfnfaekgaipjaaGreatDoorJ31
import Derived.Test.YtpfnfaekgaipjaaGreatDoorJ24
import Derived.Test.YtpfnfaekgaipjaaGreatDoorJ22
import Derived.Test.YtpfnfaekgaipjaaGreatDoorJ16
import Derived.Test.YtpfnfaekgaipjaaGreatDoorJ8
import Derived.Laws.BytesArg
import Derived.Test.YtpfnfaekgaipjaaGreatDoorJ28
import Derived.Test.YtpfnfaekgaipjaaGreatDoorJ14
import Derived.Test.YtpfnfaekgaipjaaGreatDoorJ15
set_option linter.unusedVariables false
set_option linter.unusedSectionVars false
set_option linter.unusedSimpArgs false
set_option maxRecDepth 20000
namespace Go.Proofs.YtpfnfaekgaipjaaGreatDoor
open Go.RowKit

/-- a lies below b, or at it, if the ends count -/
def wiN (c : Bool) (a b : Nat) : Bool := decide (a < b) || (decide (a = b) && c)
/-- what is left ahead of digit k, over Z -/
def rsN (R Z : Nat) : Nat → Nat
  | 0 => R
  | k + 1 => 10 * (rsN R Z k % Z)
def unK (c : Bool) (R d Z k : Nat) : Bool := wiN c (rsN R Z k % Z) (10 ^ k * d)
def ovK (c : Bool) (R u Z k : Nat) : Bool := wiN c (Z - rsN R Z k % Z) (10 ^ k * u)
def stK (c : Bool) (R d u Z k : Nat) : Bool := unK c R d Z k || ovK c R u Z k
section
variable {c : Bool} {R d u Z : Nat} (hZ : 0 < Z)
include hZ
theorem un_big {k : Nat} (h : Z ≤ 10 ^ k * d) : stK c R d u Z k = true := by
  unfold stK unK wiN
  have := Nat.mod_lt (rsN R Z k) hZ
  have : rsN R Z k % Z < 10 ^ k * d := by omega
  simp [this]
theorem st_ex (hd : 0 < d) : ∃ K, stK c R d u Z K = true ∧ ∀ k, k < K → stK c R d u Z k = false := by
  have h1 : ∃ K, stK c R d u Z K = true := ⟨Z, un_big hZ (by
    have h1 : Z < 10 ^ Z := Nat.lt_pow_self (by decide)
    have h2 : 10 ^ Z * 1 ≤ 10 ^ Z * d := Nat.mul_le_mul_left _ hd
    omega)⟩
  obtain ⟨K, hK⟩ := h1
  induction K using Nat.strongRecOn with
  | ind K ih =>
    by_cases h : ∃ k, k < K ∧ stK c R d u Z k = true
    · obtain ⟨k, h1, h2⟩ := h
      exact ih k h1 h2
    · refine ⟨K, hK, fun k hk => ?_⟩
      cases hh : stK c R d u Z k
      · rfl
      · exact absurd ⟨k, hk, hh⟩ h
end
/-- a power of ten isn't above a fraction c times 2^x -/
def zE (x e : Int) : Nat := 4 * 2 ^ (-x).toNat * 10 ^ e.toNat
def oE (x e : Int) : Nat := 2 ^ x.toNat * 10 ^ (-e).toNat
theorem zE_pos (x e : Int) : 0 < zE x e := Nat.mul_pos (Nat.mul_pos (by decide) (Nat.two_pow_pos _)) (Nat.pow_pos (by decide))
theorem oE_pos (x e : Int) : 0 < oE x e := Nat.mul_pos (Nat.two_pow_pos _) (Nat.pow_pos (by decide))
def tnP (c : Nat) (x e : Int) : Prop := zE x e ≤ 4 * c * oE x e
theorem ten_le_two {t p : Nat} (h : 196 * t ≤ 59 * p) : 10 ^ t ≤ 2 ^ p := by
  rcases Nat.lt_or_ge (2 ^ p) (10 ^ t) with h1 | h1
  · exfalso
    have h2 : (2 ^ p) ^ 59 < (10 ^ t) ^ 59 := Nat.pow_lt_pow_left h1 (by decide)
    have h3 : (10 ^ 59) ^ t ≤ (2 ^ 196) ^ t := Nat.pow_le_pow_left (by decide) t
    have h4 : 2 ^ (196 * t) ≤ 2 ^ (59 * p) := Nat.pow_le_pow_right (by decide) h
    have e1 : ((2 : Nat) ^ p) ^ 59 = 2 ^ (59 * p) := by rw [← Nat.pow_mul, Nat.mul_comm]
    have e2 : ((10 : Nat) ^ t) ^ 59 = (10 ^ 59) ^ t := by rw [← Nat.pow_mul, ← Nat.pow_mul, Nat.mul_comm]
    have e3 : ((2 : Nat) ^ 196) ^ t = 2 ^ (196 * t) := by rw [← Nat.pow_mul]
    rw [e1, e2] at h2
    rw [e3] at h3
    omega
  · exact h1
theorem big_ten : (2 : Nat) ^ 100000 ≤ 10 ^ 30103 := by decide +kernel
theorem two_le_ten_n {n m t q : Nat} (hn : n ≠ 0) (hb : (2 : Nat) ^ n ≤ 10 ^ m) (h : m * q ≤ n * t) : 2 ^ q ≤ 10 ^ t := by
  rcases Nat.lt_or_ge (10 ^ t) (2 ^ q) with h1 | h1
  · exfalso
    have h2 : (10 ^ t) ^ n < (2 ^ q) ^ n := Nat.pow_lt_pow_left h1 hn
    have h3 : (2 ^ n) ^ q ≤ (10 ^ m) ^ q := Nat.pow_le_pow_left hb q
    have h4 : 10 ^ (m * q) ≤ 10 ^ (n * t) := Nat.pow_le_pow_right (by decide) h
    have e1 : ((10 : Nat) ^ t) ^ n = 10 ^ (n * t) := by rw [← Nat.pow_mul, Nat.mul_comm]
    have e2 : ((2 : Nat) ^ q) ^ n = (2 ^ n) ^ q := by rw [← Nat.pow_mul, ← Nat.pow_mul, Nat.mul_comm]
    have e3 : ((10 : Nat) ^ m) ^ q = 10 ^ (m * q) := by rw [← Nat.pow_mul]
    rw [e1, e2] at h2
    rw [e3] at h3
    omega
  · exact h1
theorem two_le_ten {t q : Nat} (h : 30103 * q ≤ 100000 * t) : 2 ^ q ≤ 10 ^ t := two_le_ten_n (by decide) big_ten h
/-- the guess is never too high -/
theorem guess_ok {c L : Nat} {x : Int} (hL : 2 ^ L ≤ c) (hb : -20000 ≤ (L : Int) + x ∧ (L : Int) + x ≤ 20000) : tnP c x ((((L : Int) + x) * 30103).tdiv 100000 - 1) := by
  have hq : (((L : Int) + x) * 30103).tdiv 100000 = if 0 ≤ (L : Int) + x then (((L : Int) + x) * 30103) / 100000 else -((-((L : Int) + x) * 30103) / 100000) := by
    split
    · rw [Int.tdiv_eq_ediv_of_nonneg (by omega)]
    · rw [show ((L : Int) + x) * 30103 = -(-((L : Int) + x) * 30103) by omega, Int.neg_tdiv, Int.tdiv_eq_ediv_of_nonneg (by omega)]
  generalize hg : (((L : Int) + x) * 30103).tdiv 100000 - 1 = g at *
  unfold tnP zE oE
  rw [Nat.mul_assoc 4, Nat.mul_assoc 4]
  refine Nat.mul_le_mul_left 4 ?_
  by_cases hg0 : 0 ≤ g
  · have hp : 0 ≤ (L : Int) + x := by
      rcases Int.lt_or_le ((L : Int) + x) 0 with h | h
      · rw [if_neg (by omega)] at hq; omega
      · exact h
    rw [if_pos hp] at hq
    have h1 : 10 ^ g.toNat ≤ 2 ^ ((L : Int) + x).toNat := ten_le_two (by omega)
    rw [show (-g).toNat = 0 by omega, Nat.pow_zero, Nat.mul_one]
    by_cases hx : 0 ≤ x
    · rw [show (-x).toNat = 0 by omega, Nat.pow_zero, Nat.one_mul]
      rw [show ((L : Int) + x).toNat = L + x.toNat by omega, Nat.pow_add] at h1
      exact Nat.le_trans h1 (Nat.mul_le_mul_right _ hL)
    · rw [show x.toNat = 0 by omega, Nat.pow_zero, Nat.mul_one]
      have h2 := Nat.mul_le_mul_left (2 ^ (-x).toNat) h1
      rw [← Nat.pow_add, show (-x).toNat + ((L : Int) + x).toNat = L by omega] at h2
      exact Nat.le_trans h2 hL
  · rw [show g.toNat = 0 by omega, Nat.pow_zero, Nat.mul_one]
    by_cases hp : 0 ≤ (L : Int) + x
    · have h1 : 2 ^ (-x).toNat ≤ c * 2 ^ x.toNat := by
        by_cases hx : 0 ≤ x
        · rw [show (-x).toNat = 0 by omega, Nat.pow_zero]
          have := Nat.two_pow_pos L
          exact Nat.mul_pos (by omega) (Nat.two_pow_pos _)
        · rw [show x.toNat = 0 by omega, Nat.pow_zero, Nat.mul_one]
          exact Nat.le_trans (Nat.pow_le_pow_right (by decide) (by omega)) hL
      rw [← Nat.mul_assoc]
      exact Nat.le_trans h1 (Nat.le_mul_of_pos_right _ (Nat.pow_pos (by decide)))
    · rw [if_neg hp] at hq
      have h1 : 2 ^ (-((L : Int) + x)).toNat ≤ 10 ^ (-g).toNat := two_le_ten (by omega)
      rw [show x.toNat = 0 by omega, Nat.pow_zero, Nat.one_mul]
      rw [show (-x).toNat = L + (-((L : Int) + x)).toNat by omega, Nat.pow_add]
      exact Nat.mul_le_mul hL h1
end Go.Proofs.YtpfnfaekgaipjaaGreatDoor

namespace Go.Proofs.YtpfnfaekgaipjaaGreatDoor
open Go.RowKit

theorem NT.nz {K V : Nat} {v : Value} {w : World} (h : NT K V v w) : Nz K V v w := by
  obtain ⟨g, k, cap, z, h1, h2, h3, h4, h5⟩ := h
  exact ⟨_, k, cap, z, h1, h2, h3, h4, h5⟩
theorem NT.nt {K V : Nat} {v : Value} {w : World} (h : NT K V v w) : Nt K V v w := h.nz.nt
attribute [local irreducible] W4 Nz Nt NT
/-- the guessed place of the first digit -/
def gsP (k : Nat) (x : Int) : Int := (((bl k : Int) - 1 + x) * 30103).tdiv 100000 - 1
end Go.Proofs.YtpfnfaekgaipjaaGreatDoor

namespace Go.Proofs.YtpfnfaekgaipjaaGreatDoor
open Go.RowKit

attribute [local irreducible] W4 Nz Nt NT
/-- is the next number below nearer than the next one above -/
def nbB (n x : Int) (k : Nat) : Bool := decide (leastN n < x) && decide (k = 2 ^ fN n)
end Go.Proofs.YtpfnfaekgaipjaaGreatDoor

namespace Go.Proofs.YtpfnfaekgaipjaaGreatDoor
open Go.RowKit

/-- all but block g is as it was, but for what is new -/
structure Mut (g : Nat) (w w' : World) : Prop where
  os : w'.os = w.os
  tape : w'.tape = w.tape
  output : w'.output = w.output
  size : w.heap.size ≤ w'.heap.size
  block : ∀ k, k < w.heap.size → k ≠ g → w'.heap[k]? = w.heap[k]?
theorem Mut.refl (g : Nat) (w : World) : Mut g w w := ⟨rfl, rfl, rfl, Nat.le_refl _, fun _ _ _ => rfl⟩
theorem Mut.trans {g : Nat} {a b c : World} (h : Mut g a b) (k : Mut g b c) : Mut g a c :=
  ⟨k.os.trans h.os, k.tape.trans h.tape, k.output.trans h.output, Nat.le_trans h.size k.size, fun i hi hg => (k.block i (Nat.lt_of_lt_of_le hi h.size) hg).trans (h.block i hi hg)⟩
theorem Mut.below {g : Nat} {a b : World} (h : Below a.heap.size a b) : Mut g a b := ⟨h.os, h.tape, h.output, h.size, fun k hk _ => h.block k hk⟩
theorem Mut.set {g : Nat} {a b : World} (h : Mut g a b) (i : Nat) (v : Value) : Mut g a (b.setCell ⟨g, i, none⟩ v) :=
  h.trans ⟨rfl, rfl, rfl, by simp [World.setCell], fun k _ hk => Below.heap_setCell _ _ _ _ hk⟩
theorem Mut.out {g B : Nat} {w0 w w' : World} (h : Mut g w w') (h0 : Below B w0 w) (hB : B ≤ g) (hs : B ≤ w0.heap.size) : Below B w0 w' :=
  h0.trans ⟨h.os, h.tape, h.output, h.size, fun k hk => h.block k (by have := h0.size; omega) (by omega)⟩
attribute [local irreducible] W4 Nz Nt NT
end Go.Proofs.YtpfnfaekgaipjaaGreatDoor

namespace Go.Proofs.YtpfnfaekgaipjaaGreatDoor
open Go.RowKit

section
variable {P : Program} {Q : Exit → Act → World → Prop}
/-- each of the first n writes a slot of its own, or none, and has no guard -/
def dstM (l : List Oper) (D : List Nat) (n m : Nat) : Bool :=
  (List.range n).all fun i => (match l[i]? with
    | some o => (o.dst == none || (o.dst == some (D.getD i 0) && decide (D.getD i 0 < m))) && o.guard.isNone
    | none => false) && (List.range n).all fun j => j == i || D.getD j 0 != D.getD i 0
theorem dstM_spec {l : List Oper} {D : List Nat} {n m : Nat} (h : dstM l D n m = true) (i : Nat) (hi : i < n) (o : Oper) (ho : l[i]? = some o) :
    (o.dst = none ∨ (o.dst = some (D.getD i 0) ∧ D.getD i 0 < m)) ∧ o.guard = none ∧ ∀ j, j < n → j ≠ i → D.getD j 0 ≠ D.getD i 0 := by
  have h1 := List.all_eq_true.1 h i (List.mem_range.2 hi)
  simp only [ho, Bool.and_eq_true, decide_eq_true_eq, beq_iff_eq, List.all_eq_true, Bool.or_eq_true, bne_iff_ne, List.mem_range, Option.isNone_iff_eq_none] at h1
  exact ⟨h1.1.1, h1.1.2, fun j hj hne => (h1.2 j hj).resolve_left hne⟩
/-- the operation j writes its slot -/
def wrS (l : List Oper) (D : List Nat) (j : Nat) : Prop := (l[j]?).bind Oper.dst = some (D.getD j 0)
theorem wp_region_mem (n m : Nat) (D : List Nat) (S : List (Value → World → Prop)) (T : World → World → Prop) (M : (Nat → Prop) → (Nat → Value) → World → Prop) {id : Nat} {l : List Oper} {a0 : Act} {w0 : World} (hm : P.follows .mixedOrders = true) (hI : invB .any l.toArray n = true) (hD : dstM l D n m = true)
    (hsz : a0.tmps.size = m) (hS : ∀ p ∈ S, ∀ v w w', p v w → T w w' → p v w') (hM0 : M (fun _ => False) (slot a0) w0.drew)
    (hstep : ∀ (L : Nat → Prop) i o a w, i < n → l[i]? = some o → ¬ L i → (∀ j oj, l[j]? = some oj → L j → ∀ e ∈ oj.after, Region.binds .any e = true → L e.on) → (∀ e ∈ o.after, Region.binds .any e = true → L e.on) → M L (slot a) w →
      (∀ t, (∀ i, i < n → D.getD i 0 ≠ t) → slot a t = slot a0 t) → (∀ j, j < n → wrS l D j → L j → (S.getD j fun _ _ => True) (slot a (D.getD j 0)) w) →
      o.wp P a w (fun a' w' => ∃ v, a' = a.put o.dst v ∧ (S.getD i fun _ _ => True) v w' ∧ T w w' ∧ M (fun j => L j ∨ j = i) (fun t => if o.dst = some t then v else slot a t) w') Q)
    (hend : ∀ (L : Nat → Prop) a w, (∀ i, i < n → L i) → M L (slot a) w → a.tmps.size = m → a.defers = a0.defers → (∀ t, (∀ i, i < n → D.getD i 0 ≠ t) → slot a t = slot a0 t) → (∀ i, i < n → wrS l D i → (S.getD i fun _ _ => True) (slot a (D.getD i 0)) w) → wpList P l.toArray Q (l.drop n) a w) :
    (Code.region id l.toArray true).wp P Q a0 w0 := by
  have hSt : ∀ i v w w', (S.getD i fun _ _ => True) v w → T w w' → (S.getD i fun _ _ => True) v w' := by
    intro i
    rcases Nat.lt_or_ge i S.length with h | h
    · rw [List.getD_eq_getElem?_getD, List.getElem?_eq_getElem h]; exact hS _ (List.getElem_mem h)
    · rw [List.getD_eq_getElem?_getD, List.getElem?_eq_none h]; exact fun _ _ _ _ _ => trivial
  refine wp_region_inv3 n (fun L a w => M L (slot a) w ∧ a.tmps.size = m ∧ a.defers = a0.defers ∧ (∀ t, (∀ i, i < n → D.getD i 0 ≠ t) → slot a t = slot a0 t) ∧ ∀ j, j < n → wrS l D j → L j → (S.getD j fun _ _ => True) (slot a (D.getD j 0)) w) hm hI
    ⟨hM0, hsz, rfl, fun _ _ => rfl, fun _ _ _ h => h.elim⟩ ?_ (fun L a w hL hB => hend L a w hL hB.1 hB.2.1 hB.2.2.1 hB.2.2.2.1 fun i hi hw => hB.2.2.2.2 i hi hw (hL i hi))
  intro L i o a w hi ho hL hcl he hB
  obtain ⟨hd, hg, hne⟩ := dstM_spec hD i hi o ho
  have hw := hstep L i o a w hi ho hL hcl he hB.1 hB.2.2.2.1 hB.2.2.2.2
  unfold wpOp
  have ho' : l.toArray[i]? = some o := by simpa using ho
  simp only [ho']
  rw [if_pos (by unfold Region.wanted; rw [hg])]
  refine Or.inl (Oper.wp_mono ?_ hw)
  rintro a' w' ⟨v, rfl, hv, hT, hM⟩
  rcases hd with hd | ⟨hd, hlt⟩
  · have ea : a.put o.dst v = a := by rw [hd]; rfl
    have em : (fun t => if o.dst = some t then v else slot a t) = slot a := by funext t; rw [hd]; simp
    rw [ea]
    rw [em] at hM
    refine ⟨hM, hB.2.1, hB.2.2.1, hB.2.2.2.1, fun j hj hwj hLj => ?_⟩
    rcases hLj with hLj | rfl
    · exact hSt j _ _ _ (hB.2.2.2.2 j hj hwj hLj) hT
    · unfold wrS at hwj; rw [ho] at hwj; simp [hd] at hwj
  · have em : (fun t => if o.dst = some t then v else slot a t) = slot (a.put o.dst v) := by
      funext t
      rw [hd]
      by_cases h : D.getD i 0 = t
      · subst h
        rw [if_pos rfl, slot_put (by rw [hB.2.1]; exact hlt)]
      · rw [if_neg (fun e => h (Option.some.inj e)), slot_put_ne h]
    rw [em] at hM
    refine ⟨hM, by rw [hd]; simp [Act.put, hB.2.1], by rw [hd]; exact hB.2.2.1, fun t ht => ?_, fun j hj hwj hLj => ?_⟩
    · rw [hd, slot_put_ne (ht i hi)]; exact hB.2.2.2.1 t ht
    · by_cases hji : j = i
      · subst hji
        rw [hd, slot_put (by rw [hB.2.1]; exact hlt)]; exact hv
      · rw [hd, slot_put_ne (fun h => hne j hj hji h.symm)]
        exact hSt j _ _ _ (hB.2.2.2.2 j hj hwj (hLj.resolve_right hji)) hT
end
end Go.Proofs.YtpfnfaekgaipjaaGreatDoor

namespace Go.Proofs.YtpfnfaekgaipjaaGreatDoor
open Go.RowKit

theorem tn_ex {k : Nat} {x : Int} : ∀ (d : Nat) (g0 : Int), tnP k x g0 → ¬ tnP k x (g0 + d) → ∃ E, g0 ≤ E ∧ E < g0 + d ∧ tnP k x E ∧ ¬ tnP k x (E + 1)
  | 0, g0, h0, h1 => absurd h0 (by simpa using h1)
  | d + 1, g0, h0, h1 => by
    by_cases h : tnP k x (g0 + 1)
    · obtain ⟨E, e1, e2, e3, e4⟩ := tn_ex d (g0 + 1) h (by rw [show g0 + 1 + (d : Int) = g0 + ((d + 1 : Nat) : Int) by omega]; exact h1)
      exact ⟨E, by omega, by omega, e3, e4⟩
    · exact ⟨g0, Int.le_refl _, by omega, h0, h⟩
theorem tn_top {k : Nat} {x : Int} (hk : k < 2 ^ 256) (hx : x ≤ 17000) : ¬ tnP k x 6000 := by
  unfold tnP zE oE
  rw [show ((-6000 : Int)).toNat = 0 by decide, Nat.pow_zero, Nat.mul_one, show ((6000 : Int)).toNat = 6000 by decide]
  have h1 : (2 : Nat) ^ 18000 ≤ 10 ^ 6000 := by decide +kernel
  obtain ⟨m', hm'⟩ : ∃ m' : Nat, m' = 18000 := ⟨_, rfl⟩
  rw [← hm'] at h1
  generalize (10 : Nat) ^ 6000 = T at *
  obtain ⟨m, hm⟩ : ∃ m : Nat, m = 17000 := ⟨_, rfl⟩
  have h2 : k * 2 ^ x.toNat < 2 ^ 256 * 2 ^ m := by
    have a1 : k * 2 ^ x.toNat < 2 ^ 256 * 2 ^ x.toNat := Nat.mul_lt_mul_of_pos_right hk (Nat.two_pow_pos _)
    have a2 : 2 ^ 256 * 2 ^ x.toNat ≤ 2 ^ 256 * 2 ^ m := Nat.mul_le_mul_left _ (Nat.pow_le_pow_right (by decide) (by omega))
    exact Nat.lt_of_lt_of_le a1 a2
  rw [← Nat.pow_add] at h2
  have h3 : (2 : Nat) ^ (256 + m) ≤ 2 ^ m' := Nat.pow_le_pow_right (by decide) (by omega)
  have h4 : 1 * T ≤ 2 ^ (-x).toNat * T := Nat.mul_le_mul_right _ (Nat.two_pow_pos _)
  generalize (2 : Nat) ^ (256 + m) = Y at *
  generalize (2 : Nat) ^ m' = Y' at *
  rw [Nat.mul_assoc 4, Nat.mul_assoc 4]
  generalize 2 ^ (-x).toNat * T = Z1 at *
  generalize k * 2 ^ x.toNat = Z2 at *
  omega
attribute [local irreducible] W4 Nz Nt NT
end Go.Proofs.YtpfnfaekgaipjaaGreatDoor

namespace Go.Proofs.YtpfnfaekgaipjaaGreatDoor
open Go.RowKit

theorem p10_pos (n : Nat) : (0 : Int) < 10 ^ n := Int.pow_pos (by decide)
/-- the digit of place i -/
def dgt (V : Int) (i : Nat) : Int := V / 10 ^ i % 10
theorem dgt_bd (V : Int) (i : Nat) : 0 ≤ dgt V i ∧ dgt V i ≤ 9 := by
  unfold dgt
  have := Int.emod_nonneg (V / 10 ^ i) (show (10 : Int) ≠ 0 by decide)
  have := Int.emod_lt_of_pos (V / 10 ^ i) (show (0 : Int) < 10 by decide)
  omega
theorem dgt_small {V : Int} {L : Nat} (h0 : 0 ≤ V) (h : V < 10 ^ L) (i : Nat) (hi : L ≤ i) : dgt V i = 0 := by
  unfold dgt
  have : V / 10 ^ i = 0 := Int.ediv_eq_zero_of_lt h0 (Int.lt_of_lt_of_le h (by
    obtain ⟨k, rfl⟩ : ∃ k, i = L + k := ⟨i - L, by omega⟩
    rw [Int.pow_add]
    have h1 := p10_pos L
    have h2 := p10_pos k
    have : (10 : Int) ^ L * 1 ≤ 10 ^ L * 10 ^ k := Int.mul_le_mul_of_nonneg_left (by omega) (by omega)
    omega))
  rw [this]; rfl
theorem div_div10 (V : Int) (a b : Nat) : V / 10 ^ a / 10 ^ b = V / 10 ^ (a + b) := by
  rw [Int.pow_add, Int.ediv_ediv_of_nonneg (Int.le_of_lt (p10_pos a))]
theorem emod_mul_ediv' {W a b : Int} (ha : 0 < a) : W % (a * b) / a = W / a % b := by
  rw [Int.emod_def, Int.emod_def, ← Int.ediv_ediv_of_nonneg (Int.le_of_lt ha)]
  have : W - a * b * (W / a / b) = W + (-(b * (W / a / b))) * a := by grind
  rw [this, Int.add_mul_ediv_right _ _ (by omega)]; omega
/-- the digits, the highest first: those of the lowest L places -/
def decL (V : Int) (L : Nat) : List Int := if sizeL (dgt V) L = 0 then [48] else (List.range (sizeL (dgt V) L)).map fun i => 48 + dgt V (sizeL (dgt V) L - 1 - i)
theorem decL_more {V : Int} {L L' : Nat} (h0 : 0 ≤ V) (h : V < 10 ^ L) (h' : V < 10 ^ L') : decL V L = decL V L' := by
  have key : ∀ a b, a ≤ b → V < 10 ^ a → decL V b = decL V a := fun a b hab ha => by
    unfold decL
    rw [sizeL_more (fun i hi => dgt_small h0 ha i hi) b hab]
  rcases Nat.le_total L L' with e | e
  · exact (key L L' e h).symm
  · exact key L' L e h'

end Go.Proofs.YtpfnfaekgaipjaaGreatDoor

namespace Go.Proofs.YtpfnfaekgaipjaaGreatDoor
open Go.RowKit

/-- the digits of the lowest L places, as bytes -/
def blB (V : Int) (L : Nat) : List Value := (List.range L).map fun i => Value.int .u8 (48 + dgt V i)
theorem blB_succ (V : Int) (L : Nat) : blB V L ++ [Value.int .u8 (48 + dgt V L)] = blB V (L + 1) := by simp [blB, List.range_succ]
def slLen : Value → Nat | .slice _ n _ => n | _ => 0

theorem p22 : ∀ s : Nat, (18446744073709551616 : Int) ^ s ≤ 10 ^ (22 * s)
  | 0 => by simp
  | s + 1 => by
    have ih := p22 s
    have e : (10 : Int) ^ (22 * (s + 1)) = 10 ^ (22 * s) * 10000000000000000000000 := by rw [Nat.mul_add, Int.pow_add]; rfl
    rw [e, Int.pow_succ]
    have h0 := pw_pos s
    have h1 := p10_pos (22 * s)
    generalize (18446744073709551616 : Int) ^ s = A at *
    generalize (10 : Int) ^ (22 * s) = B at *
    omega
theorem p10_lt {L s : Nat} (h : (10 : Int) ^ L < 18446744073709551616 ^ s) : L < 22 * s := by
  rcases Nat.lt_or_ge L (22 * s) with h' | h'
  · exact h'
  · have h2 := p22 s
    obtain ⟨k, rfl⟩ : ∃ k, L = 22 * s + k := ⟨L - 22 * s, by omega⟩
    rw [Int.pow_add] at h
    have h3 := p10_pos k
    have h4 := p10_pos (22 * s)
    have : (10 : Int) ^ (22 * s) * 1 ≤ 10 ^ (22 * s) * 10 ^ k := Int.mul_le_mul_of_nonneg_left (by omega) (by omega)
    omega
/-- bytes that are made: block g holds those of f, n of them, none frozen -/
def HasB (g n : Nat) (f : Nat → Int) (w : World) : Prop := g < w.heap.size ∧ ∀ i, i < n → w.cell? ⟨g, i, none⟩ = some (.int .u8 (f i)) ∧ w.frozen? ⟨g, i, none⟩ = false
theorem owns_cells {w : World} {base g L cap : Nat} {V : Int} (h : w.ownsRow base 5 1 (.slice (some ⟨g, 0, none⟩) L cap) L (blB V L)) : base ≤ g ∧ L ≤ cap ∧ cap ≤ maxLen ∧ HasB g L (fun i => 48 + dgt V i) w := by
  obtain ⟨hl, h⟩ := h
  rcases h with ⟨h, _⟩ | ⟨g', cap', cur, he, hb, hh, h1, h2, h3, h4⟩
  · cases h
  · cases he
    have hg : g < w.heap.size := by
      rcases Nat.lt_or_ge g w.heap.size with h' | h'
      · exact h'
      · rw [Array.getElem?_eq_none h'] at hh; cases hh
    refine ⟨hb, h1, h2, hg, fun i hi => ⟨?_, ?_⟩⟩
    · have hcur : cur[i]? = some (.int .u8 (48 + dgt V i)) := by
        have : (cur.toList.take (L * 1))[i]? = some (.int .u8 (48 + dgt V i)) := by rw [h4]; simp [blB, hi]
        rw [List.getElem?_take] at this
        simpa [hi] using this
      unfold World.cell?
      simp [hh, hcur]
    · unfold World.frozen?
      simp [hh]

end Go.Proofs.YtpfnfaekgaipjaaGreatDoor

namespace Go.Proofs.YtpfnfaekgaipjaaGreatDoor
open Go.RowKit

theorem NT.grown {K V Bs : Nat} {v tv : Value} {l : List UInt8} {w w' : World} (h : NT K V v w) (ho : w.ownsRow Bs 5 1 tv l.length (Lib.byteCells l)) (hl : tv = .slice none 0 0 ∨ 0 < l.length) (hg : w.grownBy w' tv.ownBlock) : NT K V v w' := by
  obtain ⟨b, k, cap, z, h1, h2, ⟨n1, n2, n3, n4, n5⟩, h4, h5⟩ := h
  refine ⟨b, k, cap, z, h1, h2, ⟨n1, n2, n3, n4, ?_⟩, h4, h5⟩
  rcases n5 with n5 | ⟨b', off, e, hb, hc⟩
  · exact Or.inl n5
  · cases e
    refine Or.inr ⟨b, 0, rfl, Nat.lt_of_lt_of_le hb hg.size, fun i hi => ?_⟩
    have hne : some b ≠ tv.ownBlock := by
      rcases hl with rfl | hl
      · intro h; cases h
      · obtain ⟨g', cap', rfl, _, _⟩ := ho.form hl
        intro h
        have : b = g' := Option.some.inj h
        subst this
        have h6 := hc 0 (by omega)
        rw [Nat.add_zero, ho.cellAt 0 (by omega)] at h6
        simp [Lib.byteCells, hl] at h6
    exact (World.cell?_of_block (w := w) (a := ⟨b, 0 + i, none⟩) (hg.block b hb hne)).trans (hc i hi)
attribute [local irreducible] W4 Nz Nt NT
end Go.Proofs.YtpfnfaekgaipjaaGreatDoor

namespace Go.Proofs.YtpfnfaekgaipjaaGreatDoor
open Go.RowKit

/-- how many quarters below a number are read as it -/
def lwN (n x : Int) (k : Nat) : Nat := if nbB n x k then 1 else 2
def evK (k : Nat) : Bool := decide (k % 2 = 0)
/-- the first digit's place, and how many digits behind it -/
structure Shd (n x : Int) (k : Nat) (E : Int) (K : Nat) : Prop where
  t0 : tnP k x E
  t1 : ¬ tnP k x (E + 1)
  st : stK (evK k) (4 * k * oE x E) (lwN n x k * oE x E) (2 * oE x E) (zE x E) K = true
  mn : ∀ j, j < K → stK (evK k) (4 * k * oE x E) (lwN n x k * oE x E) (2 * oE x E) (zE x E) j = false
theorem bin_x {n x : Int} (hb : binN n) (h1 : leastN n ≤ x) (h2 : x ≤ mostN n) : -16990 ≤ x ∧ x ≤ 16990 := by
  have h3 : -16990 ≤ leastN n ∧ mostN n ≤ 16990 := by
    rcases bin_cases hb with rfl | rfl | rfl | rfl | rfl | rfl <;> decide
  omega
theorem gs_in {k : Nat} {x : Int} (hk : k < 2 ^ 256) (hk0 : k ≠ 0) (hx : -16990 ≤ x ∧ x ≤ 16990) : tnP k x (gsP k x) ∧ -6000 ≤ gsP k x ∧ gsP k x < 6000 := by
  have hb : bl k ≤ 256 := bl_le.2 hk
  obtain ⟨b1, b2, b3⟩ := bl_bd hk0
  have e : ((bl k - 1 : Nat) : Int) = (bl k : Int) - 1 := by omega
  have := guess_ok (c := k) (L := bl k - 1) (x := x) b1 (by omega)
  rw [e] at this
  refine ⟨this, ?_⟩
  unfold gsP
  by_cases h0 : 0 ≤ (bl k : Int) - 1 + x
  · rw [Int.tdiv_eq_ediv_of_nonneg (by omega)]; omega
  · rw [show ((bl k : Int) - 1 + x) * 30103 = -(-((bl k : Int) - 1 + x) * 30103) by omega, Int.neg_tdiv, Int.tdiv_eq_ediv_of_nonneg (by omega)]; omega
theorem Shd.ex {n x : Int} {k : Nat} (hk : k < 2 ^ 256) (hk0 : k ≠ 0) (hx : -16990 ≤ x ∧ x ≤ 16990) : ∃ E K, Shd n x k E K := by
  obtain ⟨g1, g2, g3⟩ := gs_in hk hk0 hx
  obtain ⟨E, e1, e2, e3, e4⟩ := tn_ex (6000 - gsP k x).toNat (gsP k x) g1 (by rw [show gsP k x + ((6000 - gsP k x).toNat : Int) = 6000 by omega]; exact tn_top hk (by omega))
  have hl : 0 < lwN n x k * oE x E := Nat.mul_pos (by unfold lwN; split <;> decide) (oE_pos _ _)
  obtain ⟨K, h1, h2⟩ := st_ex (c := evK k) (R := 4 * k * oE x E) (u := 2 * oE x E) (zE_pos x E) hl
  exact ⟨E, K, e3, e4, h1, h2⟩
end Go.Proofs.YtpfnfaekgaipjaaGreatDoor

namespace Go.Proofs.YtpfnfaekgaipjaaGreatDoor
open Go.RowKit

theorem W4_none {k : Nat} (hk : k < 2 ^ 256) : decide (W4 k 0 = 0 ∧ W4 k 1 = 0 ∧ W4 k 2 = 0 ∧ W4 k 3 = 0) = decide (k = 0) := by
  by_cases h : k = 0
  · subst h
    rw [decide_eq_true (by simp [W4_zero]), decide_eq_true rfl]
  · rw [decide_eq_false h, decide_eq_false]
    rintro ⟨h0, h1, h2, h3⟩
    refine h (A4_inj hk (by decide) fun i hi => ?_)
    have : i = 0 ∨ i = 1 ∨ i = 2 ∨ i = 3 := by omega
    rcases this with rfl | rfl | rfl | rfl
    · rw [h0, W4_zero]
    · rw [h1, W4_zero]
    · rw [h2, W4_zero]
    · rw [h3, W4_zero]
attribute [local irreducible] W4
end Go.Proofs.YtpfnfaekgaipjaaGreatDoor
