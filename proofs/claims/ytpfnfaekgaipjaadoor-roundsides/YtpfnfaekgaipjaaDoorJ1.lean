/-
  Texts that the proof leans on, joined: Bg, Ord, Oc, Od, Oe, Shelf, Ref, Arr, Add, Div.
-/
import Derived.Test.YtpfnfaekgaipjaaDoorProg
import Derived.Below
import Derived.WalkKit
import Derived.StillTail
import Derived.Shelf.Strings.Trim
import Derived.Shelf.Small.Utf8
import Derived.Shelf.Small.Bits
import Derived.Shelf.Small.Strs
import Derived.Shelf.Small.Wraps
import Derived.Shelf.Strconv.Itoa0
import Derived.Shelf.Strconv.Itoa1
import Derived.Shelf.LaysM
import Derived.Shelf.Strconv.Itoa2
import Derived.Shelf.Strconv.Itoa3
import Derived.Shelf.Strconv.Clone
import Derived.Shelf.Strings.Search1
import Derived.Shelf.Strconv.AppendUint10
import Derived.Shelf.Strconv.AppendInt10
import Derived.Shelf.Strconv.AppendIntPublic10
import Derived.Shelf.Strings.Prefix
import Derived.Shelf.Strings.Runes
import Derived.Shelf.Strings.AsciiSet
import Derived.Shelf.Bits.Mul64
import Derived.Shelf.Unicode.DecodeSlow
import Derived.Test.YtpfnfaekgaipjaaDoorRows
import Derived.WalkSpells
import Derived.WalkLawsBesides
import Derived.Laws.Externs
import Derived.Deep.RegionHeld3
import Derived.Deep.DrawnRows
import Derived.BigQuiet
namespace Go.Proofs.YtpfnfaekgaipjaaDoor
open Go.RowKit
theorem bgo {n : Nat} {a b : World} (h : Below n a b := by (repeat (first | with_reducible assumption | with_reducible exact Below.refl _ _ | with_reducible refine Below.setCell ?_ (by first | omega | (dsimp only; omega) | (simp <;> omega)) _ | with_reducible refine Below.alloc ?_ (by first | omega | (simp <;> omega)) _ | with_reducible refine Below.drew ?_))) : Below n a b := h
theorem ltg {a b : Nat} (h : a < b := by first | with_reducible assumption | (simp; done) | (simp; omega)) : a < b := h
end Go.Proofs.YtpfnfaekgaipjaaDoor

set_option linter.unusedVariables false
set_option linter.unusedSimpArgs false
set_option maxRecDepth 20000
set_option linter.unusedSectionVars false
namespace Go.Proofs.YtpfnfaekgaipjaaDoor
open Go.RowKit

section
variable {P : Program} {ops : Array Oper} {Q : Exit → Act → World → Prop} {md : Region.Mode}

/-- how many of the first n are still to come -/
def toCome (listed : Array Bool) : Nat → Nat
  | 0 => 0
  | n + 1 => toCome listed n + (if listed.getD n true then 0 else 1)
theorem toCome_out {listed : Array Bool} {i : Nat} : ∀ n, n ≤ i → toCome (listed.setIfInBounds i true) n = toCome listed n
  | 0, _ => rfl
  | n + 1, h => by unfold toCome; rw [toCome_out n (by omega), getD_set_ne true (by omega)]
theorem toCome_set {listed : Array Bool} {i : Nat} (hu : listed.getD i true = false) : ∀ n, i < n → toCome (listed.setIfInBounds i true) n + 1 = toCome listed n
  | 0, h => by omega
  | n + 1, h => by
    unfold toCome
    by_cases e : i = n
    · subst e
      have hlt : i < listed.size := by
        rcases Nat.lt_or_ge i listed.size with h' | h'
        · exact h'
        · simp [Array.getElem?_eq_none h'] at hu
      rw [toCome_out i (Nat.le_refl _), hu]
      simp [hlt]
    · rw [getD_set_ne true e]
      have := toCome_set hu n (by omega)
      omega
theorem toCome_zero {listed : Array Bool} : ∀ n, toCome listed n = 0 → ∀ i, i < n → listed.getD i true = true
  | 0, _, i, h => by omega
  | n + 1, h, i, hi => by
    unfold toCome at h
    by_cases e : i = n
    · subst e
      by_cases hl : listed.getD i true = true
      · exact hl
      · rw [if_neg hl] at h; omega
    · exact toCome_zero n (by omega) i (by omega)
theorem toCome_least {listed : Array Bool} : ∀ n, 0 < toCome listed n → ∃ i, i < n ∧ listed.getD i true = false ∧ ∀ j, j < i → listed.getD j true = true
  | 0, h => by simp [toCome] at h
  | n + 1, h => by
    by_cases h0 : 0 < toCome listed n
    · obtain ⟨i, h1, h2, h3⟩ := toCome_least n h0
      exact ⟨i, by omega, h2, h3⟩
    · unfold toCome at h
      have hz := toCome_zero (listed := listed) n (by omega)
      refine ⟨n, by omega, ?_, fun j hj => hz j hj⟩
      cases hl : listed.getD n true with
      | false => rfl
      | true => rw [hl, if_pos rfl] at h; omega

/-- of the first n each waits for earlier ones alone -/
def backB (md : Region.Mode) (ops : Array Oper) (n : Nat) : Bool :=
  (List.range n).all fun i => match ops[i]? with
    | some o => o.after.all fun e => !Region.binds md e || decide (e.on < i)
    | none => false
theorem backB_spec {n : Nat} (h : backB md ops n = true) (i : Nat) (hi : i < n) : ∃ o, ops[i]? = some o ∧ ∀ e ∈ o.after, Region.binds md e = true → e.on < i := by
  have h1 := List.all_eq_true.1 h i (List.mem_range.2 hi)
  cases ho : ops[i]? with
  | none => simp only [ho] at h1; cases h1
  | some o =>
    simp only [ho] at h1
    refine ⟨o, rfl, fun e he hb => ?_⟩
    have h2 := Array.all_eq_true_iff_forall_mem.1 h1 e he
    simpa [hb] using h2

theorem getD_true_in {listed : Array Bool} {i : Nat} (hi : i < listed.size) (h : listed.getD i true = true) : listed.getD i false = true := by
  simp [hi] at h ⊢; exact h

/-- what stands when the first n are done -/
def headDone (n m : Nat) : Array Bool := (List.replicate n true ++ List.replicate (m - n) false).toArray

theorem headDone_eq {n : Nat} {listed : Array Bool} (hn : n ≤ ops.size) (inv : HeadInv md ops n listed) (h : ∀ i, i < n → listed.getD i true = true) : listed = headDone n ops.size := by
  apply Array.ext
  · simp [headDone, inv.size]; omega
  · intro i h1 h2
    by_cases hi : i < n
    · have := h i hi
      simp [h1] at this
      rw [this]
      simp [headDone, List.getElem_append, hi]
    · have := inv.tail i (by omega) (by rw [← inv.size]; exact h1)
      simp [h1] at this
      rw [this]
      simp [headDone, List.getElem_append, hi]

theorem toCome_replicate (m : Nat) : ∀ n, n ≤ m → toCome (Array.replicate m false) n = n
  | 0, _ => rfl
  | n + 1, h => by unfold toCome; rw [toCome_replicate m n (by omega)]; simp [show n < m by omega]

/-- all the checks of a region in one -/
def invB (md : Region.Mode) (ops : Array Oper) (n : Nat) : Bool :=
  Region.sinkB md ops n && Region.chainB md ops n && decide (n < ops.size) && backB md ops n && Region.seqB md ops (ops.size - n) n (headDone n ops.size)

/-- what slot t of a frame holds -/
abbrev slot (a : Act) (t : Nat) : Value := a.tmps[t]?.getD undef
theorem slot_put_ne {a : Act} {d t : Nat} {v : Value} (h : d ≠ t) : slot (a.put (some d) v) t = slot a t := by
  simp [slot, Act.put, Array.getElem?_setIfInBounds_ne h]
theorem slot_put {a : Act} {d : Nat} {v : Value} (h : d < a.tmps.size) : slot (a.put (some d) v) d = v := by
  simp [slot, Act.put, h]

end
end Go.Proofs.YtpfnfaekgaipjaaDoor

namespace Go.Proofs.YtpfnfaekgaipjaaDoor
open Go.RowKit

section
variable {P : Program} {ops : Array Oper} {Q : Exit → Act → World → Prop} {md : Region.Mode}
theorem listed_set {listed : Array Bool} {i : Nat} (hi : i < listed.size) : (fun j => (listed.setIfInBounds i true).getD j false = true) = (fun j => listed.getD j false = true ∨ j = i) := by
  funext j
  apply propext
  by_cases e : j = i
  · subst e
    simp [hi]
  · rw [getD_set_ne false (fun h => e h.symm)]
    simp [e]
/-- 'B L a w': what stands where just the operations of L are done -/
theorem wpAny_inv3 {n : Nat} {B : (Nat → Prop) → Act → World → Prop} {tail : List Oper} (hs : Region.sinkB md ops n = true) (hc : Region.chainB md ops n = true) (hn : n < ops.size) (hb : backB md ops n = true)
    (htl : ∀ j, tail[j]? = ops[n + j]?) (hseq : Region.seqB md ops tail.length n (headDone n ops.size) = true)
    (hstep : ∀ (L : Nat → Prop) i o a w, i < n → ops[i]? = some o → ¬ L i → (∀ j oj, ops[j]? = some oj → L j → ∀ e ∈ oj.after, Region.binds md e = true → L e.on) → (∀ e ∈ o.after, Region.binds md e = true → L e.on) → B L a w → wpOp P ops Q i (fun a' w' => B (fun j => L j ∨ j = i) a' w') a w)
    (hend : ∀ (L : Nat → Prop) a w, (∀ i, i < n → L i) → B L a w → wpList P ops Q tail a w) :
    ∀ (f : Nat) (listed : Array Bool) (a : Act) (w : World), HeadInv md ops n listed → toCome listed n = f → B (fun j => listed.getD j false = true) a w → wpAny P md ops Q (f + tail.length) listed a w
  | 0, listed, a, w, inv, hf, hB => by
    have hz := toCome_zero n hf
    have he := headDone_eq (Nat.le_of_lt hn) inv hz
    have hw := hend _ a w (fun i hi => getD_true_in (by rw [inv.size]; omega) (hz i hi)) hB
    rw [Nat.zero_add, he]
    exact wpAny_of_seq tail n _ a w htl hseq hw
  | f + 1, listed, a, w, inv, hf, hB => by
    obtain ⟨k, hk, hku, hkl⟩ := toCome_least (listed := listed) n (by omega)
    rw [show f + 1 + tail.length = (f + tail.length) + 1 by omega]
    refine ⟨fun h0 => ?_, fun i hi => ?_⟩
    · obtain ⟨o, ho, hlt⟩ := backB_spec hb k hk
      have : k ∈ Region.ready md ops listed := mem_ready.2 ⟨hku, o, ho, fun e he hbd => by
        have := hlt e he hbd
        exact getD_true_in (by rw [inv.size]; omega) (hkl _ this)⟩
      rw [h0] at this; cases this
    · have hin : i < n := by
        rcases Nat.lt_or_ge i n with h | h
        · exact h
        · exact absurd hi (tail_waits hs hc hn inv _ k rfl hk hku i h)
      obtain ⟨hu, o, ho, hall⟩ := mem_ready.1 hi
      refine wpOp_mono (fun a' w' h3 => ?_) (hstep (fun j => listed.getD j false = true) i o a w hin ho (by show ¬ (listed.getD i false = true); rw [getD_both hu]; decide) inv.closed hall hB)
      refine wpAny_inv3 hs hc hn hb htl hseq hstep hend f _ a' w' (inv.set hi hin) (by have := toCome_set hu n hin; omega) ?_
      rw [listed_set (by rw [inv.size]; omega)]
      exact h3
theorem wp_region_inv3 (n : Nat) (B : (Nat → Prop) → Act → World → Prop) {id : Nat} {l : List Oper} {a : Act} {w : World} (hm : P.follows .mixedOrders = true) (hI : invB .any l.toArray n = true)
    (h0 : B (fun _ => False) a w.drew)
    (hstep : ∀ (L : Nat → Prop) i o a w, i < n → l[i]? = some o → ¬ L i → (∀ j oj, l[j]? = some oj → L j → ∀ e ∈ oj.after, Region.binds .any e = true → L e.on) → (∀ e ∈ o.after, Region.binds .any e = true → L e.on) → B L a w → wpOp P l.toArray Q i (fun a' w' => B (fun j => L j ∨ j = i) a' w') a w)
    (hend : ∀ (L : Nat → Prop) a w, (∀ i, i < n → L i) → B L a w → wpList P l.toArray Q (l.drop n) a w) : (Code.region id l.toArray true).wp P Q a w := by
  simp only [invB, Bool.and_eq_true, decide_eq_true_eq] at hI
  obtain ⟨⟨⟨⟨hs, hc⟩, hn⟩, hb⟩, hseq⟩ := hI
  have hdl : (l.drop n).length = l.toArray.size - n := by simp
  refine wp_region_any hm ?_
  have hf0 : (fun j => (Array.replicate l.toArray.size false).getD j false = true) = fun _ => False := by
    funext j
    rw [getD_replicate_false]
    simp
  have H := wpAny_inv3 (P := P) (Q := Q) (md := .any) (ops := l.toArray) (n := n) (B := B) (tail := l.drop n) hs hc hn hb (fun j => by simp [List.getElem?_drop]) (by rw [hdl]; exact hseq)
    (fun L i o a w hi ho hL hcl he hB => hstep L i o a w hi (by simpa using ho) hL (fun j oj hj => hcl j oj (by simpa using hj)) he hB) hend n (Array.replicate l.toArray.size false) a w.drew
    ⟨by simp, fun j oj _ hl => (by rw [getD_replicate_false] at hl; cases hl), fun t _ ht => getD_in (by simpa using ht) (getD_replicate_false _ _)⟩
    (toCome_replicate _ n (by simpa using Nat.le_of_lt hn)) (by rw [hf0]; exact h0)
  rw [hdl] at H
  have : n + (l.toArray.size - n) = l.toArray.size := by omega
  rw [this] at H
  exact H
end
end Go.Proofs.YtpfnfaekgaipjaaDoor

namespace Go.Proofs.YtpfnfaekgaipjaaDoor
open Go.RowKit

section
variable {P : Program} {Q : Exit → Act → World → Prop}
/-- the operation j writes its slot -/
def wrS (l : List Oper) (D : List Nat) (j : Nat) : Prop := (l[j]?).bind Oper.dst = some (D.getD j 0)
end
end Go.Proofs.YtpfnfaekgaipjaaDoor

namespace Go.Proofs.YtpfnfaekgaipjaaDoor
open Go.RowKit

section
variable {P : Program} {Q : Exit → Act → World → Prop}
/-- each of the first n writes a slot of its own, or none -/
def dstE (l : List Oper) (D : List Nat) (n m : Nat) : Bool :=
  (List.range n).all fun i => (match l[i]? with
    | some o => (o.dst == none || (o.dst == some (D.getD i 0) && decide (D.getD i 0 < m)))
    | none => false) && (List.range n).all fun j => j == i || D.getD j 0 != D.getD i 0
theorem dstE_spec {l : List Oper} {D : List Nat} {n m : Nat} (h : dstE l D n m = true) (i : Nat) (hi : i < n) (o : Oper) (ho : l[i]? = some o) :
    (o.dst = none ∨ (o.dst = some (D.getD i 0) ∧ D.getD i 0 < m)) ∧ ∀ j, j < n → j ≠ i → D.getD j 0 ≠ D.getD i 0 := by
  have h1 := List.all_eq_true.1 h i (List.mem_range.2 hi)
  simp only [ho, Bool.and_eq_true, decide_eq_true_eq, beq_iff_eq, List.all_eq_true, Bool.or_eq_true, bne_iff_ne, List.mem_range] at h1
  exact ⟨h1.1, fun j hj hne => (h1.2 j hj).resolve_left hne⟩
/-- which of the first n are run (G), by their guards, whose values (V) are known -/
def gdE (l : List Oper) (D : List Nat) (n : Nat) (G : List Bool) (V : List (Option Bool)) : Bool :=
  (List.range n).all fun i => match l[i]? with
    | none => false
    | some o => match o.guard with
      | none => G.getD i true
      | some (j, b) => decide (j < n) && ((l[j]?).bind Oper.dst == some (D.getD j 0)) && (o.after.toList.any fun e => e.on == j && Region.binds .any e) && (match V.getD j none with | some c => G.getD i true == (c == b) | none => false)
theorem gdE_none {l : List Oper} {D : List Nat} {n : Nat} {G : List Bool} {V : List (Option Bool)} (h : gdE l D n G V = true) (i : Nat) (hi : i < n) (o : Oper) (ho : l[i]? = some o) (hg : o.guard = none) : G.getD i true = true := by
  have h1 := List.all_eq_true.1 h i (List.mem_range.2 hi)
  simp only [ho, hg] at h1
  exact h1
theorem gdE_some {l : List Oper} {D : List Nat} {n : Nat} {G : List Bool} {V : List (Option Bool)} (h : gdE l D n G V = true) (i : Nat) (hi : i < n) (o : Oper) (ho : l[i]? = some o) (j : Nat) (b : Bool) (hg : o.guard = some (j, b)) :
    j < n ∧ (l[j]?).bind Oper.dst = some (D.getD j 0) ∧ (∃ e ∈ o.after, e.on = j ∧ Region.binds .any e = true) ∧ ∃ c, V.getD j none = some c ∧ G.getD i true = (c == b) := by
  have h1 := List.all_eq_true.1 h i (List.mem_range.2 hi)
  simp only [ho, hg, Bool.and_eq_true, decide_eq_true_eq, beq_iff_eq, List.any_eq_true] at h1
  obtain ⟨⟨⟨h1, h2⟩, e, he, h3, h4⟩, h5⟩ := h1
  refine ⟨h1, h2, ⟨e, by simpa using he, h3, h4⟩, ?_⟩
  cases hv : V.getD j none with
  | none => rw [hv] at h5; cases h5
  | some c => rw [hv] at h5; exact ⟨c, rfl, by simpa using h5⟩
theorem wp_region_memg (n m : Nat) (D : List Nat) (S : List (Value → World → Prop)) (T : World → World → Prop) (M : (Nat → Prop) → (Nat → Value) → World → Prop) (G : List Bool) (V : List (Option Bool)) {id : Nat} {l : List Oper} {a0 : Act} {w0 : World} (hm : P.follows .mixedOrders = true) (hI : invB .any l.toArray n = true) (hD : dstE l D n m = true) (hG : gdE l D n G V = true)
    (hsz : a0.tmps.size = m) (hV : ∀ j c, j < n → V.getD j none = some c → ∀ v w, (S.getD j fun _ _ => True) v w → v = .bool c) (hT : ∀ w, T w w) (hS : ∀ p ∈ S, ∀ v w w', p v w → T w w' → p v w') (hSk : ∀ i, i < n → G.getD i true = false → ∀ v w, (S.getD i fun _ _ => True) v w) (hM0 : M (fun _ => False) (slot a0) w0.drew)
    (hskip : ∀ (L : Nat → Prop) i o a w, i < n → l[i]? = some o → G.getD i true = false → ¬ L i → M L (slot a) w → M (fun j => L j ∨ j = i) (fun t => if o.dst = some t then undef else slot a t) w)
    (hstep : ∀ (L : Nat → Prop) i o a w, i < n → l[i]? = some o → G.getD i true = true → ¬ L i → (∀ j oj, l[j]? = some oj → L j → ∀ e ∈ oj.after, Region.binds .any e = true → L e.on) → (∀ e ∈ o.after, Region.binds .any e = true → L e.on) → M L (slot a) w →
      (∀ t, (∀ i, i < n → D.getD i 0 ≠ t) → slot a t = slot a0 t) → (∀ j, j < n → wrS l D j → L j → (S.getD j fun _ _ => True) (slot a (D.getD j 0)) w) →
      o.wp P a w (fun a' w' => ∃ v, a' = a.put o.dst v ∧ (S.getD i fun _ _ => True) v w' ∧ T w w' ∧ M (fun j => L j ∨ j = i) (fun t => if o.dst = some t then v else slot a t) w') Q)
    (hend : ∀ (L : Nat → Prop) a w, (∀ i, i < n → L i) → M L (slot a) w → a.tmps.size = m → a.defers = a0.defers → (∀ t, (∀ i, i < n → D.getD i 0 ≠ t) → slot a t = slot a0 t) → (∀ i, i < n → wrS l D i → (S.getD i fun _ _ => True) (slot a (D.getD i 0)) w) → wpList P l.toArray Q (l.drop n) a w) :
    (Code.region id l.toArray true).wp P Q a0 w0 := by
  have hSt : ∀ i v w w', (S.getD i fun _ _ => True) v w → T w w' → (S.getD i fun _ _ => True) v w' := by
    intro i
    rcases Nat.lt_or_ge i S.length with h | h
    · rw [List.getD_eq_getElem?_getD, List.getElem?_eq_getElem h]; exact hS _ (List.getElem_mem h)
    · rw [List.getD_eq_getElem?_getD, List.getElem?_eq_none h]; exact fun _ _ _ _ _ => trivial
  refine wp_region_inv3 n (fun L a w => M L (slot a) w ∧ a.tmps.size = m ∧ a.defers = a0.defers ∧ (∀ t, (∀ i, i < n → D.getD i 0 ≠ t) → slot a t = slot a0 t) ∧ ∀ j, j < n → wrS l D j → L j → (S.getD j fun _ _ => True) (slot a (D.getD j 0)) w) hm hI
    ⟨hM0, hsz, rfl, fun _ _ => rfl, fun _ _ _ h => h.elim⟩ ?_ (fun L a w hL hB => hend L a w hL hB.1 hB.2.1 hB.2.2.1 hB.2.2.2.1 fun i hi hw => hB.2.2.2.2 i hi hw (hL i hi))
  intro L i o a w hi ho hL hcl he hB
  obtain ⟨hd, hne⟩ := dstE_spec hD i hi o ho
  have put_ok : ∀ v w', (S.getD i fun _ _ => True) v w' → T w w' → M (fun j => L j ∨ j = i) (fun t => if o.dst = some t then v else slot a t) w' →
      M (fun j => L j ∨ j = i) (slot (a.put o.dst v)) w' ∧ (a.put o.dst v).tmps.size = m ∧ (a.put o.dst v).defers = a0.defers ∧ (∀ t, (∀ i, i < n → D.getD i 0 ≠ t) → slot (a.put o.dst v) t = slot a0 t) ∧ ∀ j, j < n → wrS l D j → (L j ∨ j = i) → (S.getD j fun _ _ => True) (slot (a.put o.dst v) (D.getD j 0)) w' := by
    intro v w' hv hT hM
    rcases hd with hd | ⟨hd, hlt⟩
    · have ea : a.put o.dst v = a := by rw [hd]; rfl
      have em : (fun t => if o.dst = some t then v else slot a t) = slot a := by funext t; rw [hd]; simp
      rw [ea]
      rw [em] at hM
      refine ⟨hM, hB.2.1, hB.2.2.1, hB.2.2.2.1, fun j hj hwj hLj => ?_⟩
      rcases hLj with hLj | rfl
      · exact hSt j _ _ _ (hB.2.2.2.2 j hj hwj hLj) hT
      · unfold wrS at hwj; rw [ho] at hwj; simp [hd] at hwj
    · have em : (fun t => if o.dst = some t then v else slot a t) = slot (a.put o.dst v) := by
        funext t
        rw [hd]
        by_cases h : D.getD i 0 = t
        · subst h
          rw [if_pos rfl, slot_put (by rw [hB.2.1]; exact hlt)]
        · rw [if_neg (fun e => h (Option.some.inj e)), slot_put_ne h]
      rw [em] at hM
      refine ⟨hM, by rw [hd]; simp [Act.put, hB.2.1], by rw [hd]; exact hB.2.2.1, fun t ht => ?_, fun j hj hwj hLj => ?_⟩
      · rw [hd, slot_put_ne (ht i hi)]; exact hB.2.2.2.1 t ht
      · by_cases hji : j = i
        · subst hji
          rw [hd, slot_put (by rw [hB.2.1]; exact hlt)]; exact hv
        · rw [hd, slot_put_ne (fun h => hne j hj hji h.symm)]
          exact hSt j _ _ _ (hB.2.2.2.2 j hj hwj (hLj.resolve_right hji)) hT
  unfold wpOp
  have ho' : l.toArray[i]? = some o := by simpa using ho
  simp only [ho']
  have hwant : Region.wanted o (yielded l.toArray a.tmps) = G.getD i true := by
    cases hg : o.guard with
    | none =>
      rw [gdE_none hG i hi o ho hg]
      unfold Region.wanted
      rw [hg]
    | some q =>
      obtain ⟨j, b⟩ := q
      obtain ⟨hj, hdj, ⟨e, hea, hej, hbd⟩, c, hc, hGi⟩ := gdE_some hG i hi o ho j b hg
      have hLj : L j := hej ▸ he e hea hbd
      have hs0 := hV j c hj hc _ _ (hB.2.2.2.2 j hj hdj hLj)
      cases hoj : l[j]? with
      | none => rw [hoj] at hdj; cases hdj
      | some oj =>
        rw [hoj] at hdj
        have hdj' : oj.dst = some (D.getD j 0) := hdj
        have hoj' : l.toArray[j]? = some oj := by simpa using hoj
        have hltj : D.getD j 0 < m := by
          rcases (dstE_spec hD j hj oj hoj).1 with h | ⟨_, h⟩
          · rw [hdj'] at h; cases h
          · exact h
        have hs : D.getD j 0 < a.tmps.size := by rw [hB.2.1]; exact hltj
        have ht : a.tmps[D.getD j 0]? = some (.bool c) := by
          have h5 : a.tmps[D.getD j 0]? = some a.tmps[D.getD j 0] := Array.getElem?_eq_getElem hs
          have h6 : slot a (D.getD j 0) = a.tmps[D.getD j 0] := by unfold slot; rw [h5]; rfl
          rw [h5, ← h6, hs0]
        have hy : yielded l.toArray a.tmps j = some c := by
          unfold yielded
          simp only [hoj', Option.bind_some, hdj', ht]
        rw [hGi]
        unfold Region.wanted
        rw [hg]
        simp [hy]
  rw [hwant]
  cases hGi : G.getD i true with
  | false =>
    rw [if_neg (by decide)]
    exact put_ok undef w (hSk i hi hGi _ _) (hT w) (hskip L i o a w hi ho hGi hL hB.1)
  | true =>
    rw [if_pos rfl]
    refine Or.inl (Oper.wp_mono ?_ (hstep L i o a w hi ho hGi hL hcl he hB.1 hB.2.2.2.1 hB.2.2.2.2))
    rintro a' w' ⟨v, rfl, hv, hT', hM⟩
    exact put_ok v w' hv hT' hM
end
end Go.Proofs.YtpfnfaekgaipjaaDoor

namespace Go.Proofs
open Go.Shelf
def Tryd.lays134_ren : Go.Shelf.Ren := ⟨fun | 134 => 59 | 129 => 26 | n => n, fun | 53 => 26 | 3 => 3 | 4 => 4 | 46 => 69 | 5 => 5 | 9 => 9 | n => n, fun | n => n⟩
theorem Tryd.lays134 : Go.Proofs.Lays.n134 Tryd.prog Tryd.lays134_ren := {
  mixed := by kernel_rfl
  f129 := Tryd.func26.trans (congrArg some (by kernel_rfl))
  f134 := Tryd.func59.trans (congrArg some (by kernel_rfl))
  t3 := Tryd.underlying3
  a3 := Tryd.isAgg3
  z3 := Tryd.sizeOf3
  v3 := Tryd.zeroValue3
  t4 := Tryd.underlying4
  a4 := Tryd.isAgg4
  z4 := Tryd.sizeOf4
  v4 := Tryd.zeroValue4
  t5 := Tryd.underlying5
  a5 := Tryd.isAgg5
  z5 := Tryd.sizeOf5
  v5 := Tryd.zeroValue5
  t9 := Tryd.underlying9
  a9 := Tryd.isAgg9
  z9 := Tryd.sizeOf9
  v9 := Tryd.zeroValue9
  t46 := Tryd.underlying69
  a46 := Tryd.isAgg69
  z46 := Tryd.sizeOf69
  v46 := Tryd.zeroValue69
  t53 := Tryd.underlying26
  a53 := Tryd.isAgg26
  z53 := Tryd.sizeOf26
  v53 := Tryd.zeroValue26 }
/-- bits.LeadingZeros64: "LeadingZeros64 returns the number of leading zero bits in x; the result is 64 for x == 0.": IT RETURNS '64 - Lib.bitLen x'; the world is as it was. ITS CALLEE bits.Len64 IS MET BY ITS OWN CONTRACT OFF THE SHELF (lay that first): entered in place it sends the kernel out of memory. (LAID: no walk: one application.) -/
theorem Tryd.bits_LeadingZeros64 (x : Int) (w : World) (h0 : 0 ≤ x) (h1 : x ≤ 18446744073709551615) :
    Calls Tryd.prog 59 #[.int .u64 x] w fun e w' => e = .returned (.int .i64 (64 - (Lib.bitLen x.toNat : Int))) ∧ w' = w := Any.bits_LeadingZeros64 Tryd.lays134 x w h0 h1
def Tryd.lays129_ren : Go.Shelf.Ren := ⟨fun | 129 => 26 | n => n, fun | 53 => 26 | 3 => 3 | 4 => 4 | 46 => 69 | 5 => 5 | 9 => 9 | n => n, fun | n => n⟩
theorem Tryd.lays129 : Go.Proofs.Lays.n129 Tryd.prog Tryd.lays129_ren := {
  mixed := by kernel_rfl
  f129 := Tryd.func26.trans (congrArg some (by kernel_rfl))
  t3 := Tryd.underlying3
  a3 := Tryd.isAgg3
  z3 := Tryd.sizeOf3
  v3 := Tryd.zeroValue3
  t4 := Tryd.underlying4
  a4 := Tryd.isAgg4
  z4 := Tryd.sizeOf4
  v4 := Tryd.zeroValue4
  t5 := Tryd.underlying5
  a5 := Tryd.isAgg5
  z5 := Tryd.sizeOf5
  v5 := Tryd.zeroValue5
  t9 := Tryd.underlying9
  a9 := Tryd.isAgg9
  z9 := Tryd.sizeOf9
  v9 := Tryd.zeroValue9
  t46 := Tryd.underlying69
  a46 := Tryd.isAgg69
  z46 := Tryd.sizeOf69
  v46 := Tryd.zeroValue69
  t53 := Tryd.underlying26
  a53 := Tryd.isAgg26
  z53 := Tryd.sizeOf26
  v53 := Tryd.zeroValue26 }
/-- bits.Len64: "Len64 returns the minimum number of bits required to represent x; the result is 0 for x == 0.": IT RETURNS 'Lib.bitLen x'; the world is as it was. ('h0', 'h1': x is a uint64.) (LAID: no walk: one application.) -/
theorem Tryd.bits_Len64 (x : Int) (w : World) (h0 : 0 ≤ x) (h1 : x ≤ 18446744073709551615) :
    Calls Tryd.prog 26 #[.int .u64 x] w fun e w' => e = .returned (.int .i64 (Lib.bitLen x.toNat)) ∧ w' = w := Any.bits_Len64 Tryd.lays129 x w h0 h1
def Tryd.lays264_ren : Go.Shelf.Ren := ⟨fun | 264 => 66 | n => n, fun | 53 => 26 | 46 => 69 | n => n, fun | n => n⟩
theorem Tryd.lays264 : Go.Proofs.Lays.n264 Tryd.prog Tryd.lays264_ren := {
  mixed := by kernel_rfl
  f264 := Tryd.func66.trans (congrArg some (by kernel_rfl))
  t46 := Tryd.underlying69
  a46 := Tryd.isAgg69
  z46 := Tryd.sizeOf69
  v46 := Tryd.zeroValue69
  t53 := Tryd.underlying26
  a53 := Tryd.isAgg26
  z53 := Tryd.sizeOf26
  v53 := Tryd.zeroValue26 }
open Go.RowKit Go.Lib in
theorem Tryd.bits_Mul64 (x y : Nat) (hx : x < 18446744073709551616) (hy : y < 18446744073709551616) (w : World) :
    Calls Tryd.prog 66 #[.int .u64 x, .int .u64 y] w fun e w' => e = .returned (.tuple #[.int .u64 ((x * y / 18446744073709551616 : Nat) : Int), .int .u64 ((x * y % 18446744073709551616 : Nat) : Int)]) ∧ w' = w := Any.bits_Mul64 Tryd.lays264 x y hx hy w
end Go.Proofs

namespace Go.Proofs.YtpfnfaekgaipjaaDoor
open Go.RowKit

/-- how many words without noughts at the end -/
def sizeL (x : Nat → Int) : Nat → Nat
  | 0 => 0
  | n + 1 => if x n = 0 then sizeL x n else n + 1

theorem sizeL_le (x : Nat → Int) (n : Nat) : sizeL x n ≤ n := by
  induction n with
  | zero => simp [sizeL]
  | succ n ih => simp only [sizeL]; split <;> omega

theorem ret_int {k : IntKind} {a b : Int} (h : a = b) : Ending.returned (.int k a) = .returned (.int k b) := by rw [h]

set_option maxHeartbeats 400000 in
theorem size_any (b off n c : Nat) (x : Nat → Int) (w : World) (hn : n < 9223372036854775808) (hc : ∀ i, i < n → w.cell? ⟨b, off + i, none⟩ = some (.int .u64 (x i))) :
    Calls Tryd.prog 6 #[.slice (some ⟨b, off, none⟩) n c] w fun e w' => e = .returned (.int .i64 (sizeL x n)) ∧ w' = w := by
  go_enter Tryd.func6, Tryd.ntmps6
  go_wp2
  go_loop [3] (fun t => ∃ k : Nat, k ≤ n ∧ sizeL x k = sizeL x n ∧ t = .int .i64 k) (fun t => (intOf t).toNat)
  case atStart => exact ⟨n, Nat.le_refl _, rfl, rfl⟩
  case round =>
    obtain ⟨k, hk, hs, rfl⟩ := hrel
    by_cases h0 : k = 0
    · subst h0
      go_wp2
      go_ret
      exact ⟨ret_int (by rw [← hs]; rfl), rfl⟩
    · obtain ⟨j, rfl⟩ : ∃ j, k = j + 1 := ⟨k - 1, by omega⟩
      have hcj := hc j (by omega)
      by_cases hz : x j = 0
      · have HS : Hid (sizeL x j = sizeL x n) := by
          have : sizeL x (j + 1) = sizeL x j := by simp [sizeL, hz]
          exact this.symm.trans hs
        clear hs
        go_wp2
        go_round
        case rel => exact ⟨j, by omega, HS.out, by go_num⟩
        case measure => simp [intOf]
      · have HS : Hid (((j : Int) + 1) = (sizeL x n : Nat)) := by
          have : sizeL x (j + 1) = j + 1 := by simp [sizeL, hz]
          show _ = _
          rw [← hs, this]; omega
        clear hs
        go_wp2
        go_ret
        exact ⟨ret_int (by exact HS.out), rfl⟩

set_option maxHeartbeats 400000 in
theorem size_nil (w : World) :
    Calls Tryd.prog 6 #[.slice none 0 0] w fun e w' => e = .returned (.int .i64 0) ∧ w' = w := by
  go_enter Tryd.func6, Tryd.ntmps6
  go_wp2
  go_loop [3] (fun t => t = .int .i64 0) (fun t => (intOf t).toNat)
  case atStart => rfl
  case round =>
    subst hrel
    go_wp2
    go_ret
    exact ⟨rfl, rfl⟩

/-- how many bits -/
def lenL (x : Nat → Int) (n : Nat) : Int := if sizeL x n = 0 then 0 else 64 * (sizeL x n : Int) - 64 + Lib.bitLen (x (sizeL x n - 1)).toNat

theorem bitLenAux_le : ∀ f x : Nat, Lib.bitLenAux f x ≤ f
  | 0, x => by simp [Lib.bitLenAux]
  | f + 1, x => by
    have := bitLenAux_le f (x / 2)
    simp only [Lib.bitLenAux]; split <;> omega
theorem bitLen64 (x : Nat) : Lib.bitLen x ≤ 64 := bitLenAux_le 64 x

end Go.Proofs.YtpfnfaekgaipjaaDoor

namespace Go.Proofs.YtpfnfaekgaipjaaDoor
open Go.RowKit

def arrOf (f : Nat → Int) (n : Nat) : Array Value := ((List.range n).map fun i => Value.int .u64 (f i)).toArray
@[simp] theorem arrOf_size (f : Nat → Int) (n : Nat) : (arrOf f n).size = n := by simp [arrOf]
theorem arrOf_get (f : Nat → Int) (n i : Nat) (h : i < (arrOf f n).size) : (arrOf f n)[i]'h = .int .u64 (f i) := by simp [arrOf]
theorem arrOf_get? (f : Nat → Int) (n i : Nat) (h : i < n) : (arrOf f n)[i]? = some (.int .u64 (f i)) := by simp [arrOf, h]
theorem arrOf_set (f : Nat → Int) (n k : Nat) (v : Int) : (arrOf f n).setIfInBounds k (.int .u64 v) = arrOf (fun i => if i = k then v else f i) n := by
  apply Array.ext
  · simp
  · intro i h1 h2
    rw [Array.getElem_setIfInBounds]
    simp only [arrOf_get]
    by_cases h : k = i
    · subst h; simp
    · simp [h, Ne.symm h]; exact arrOf_get _ _ _ _
    simpa using h2
theorem arrOf_congr {f g : Nat → Int} {n : Nat} (h : ∀ i, i < n → f i = g i) : arrOf f n = arrOf g n := by
  apply Array.ext
  · simp
  · intro i h1 h2
    simp only [arrOf_get]
    rw [h i (by simpa using h1)]
theorem arrOf_of (cs : Array Value) (n : Nat) (f : Nat → Int) (hs : cs.size = n) (h : ∀ i, i < n → cs[i]? = some (.int .u64 (f i))) : cs = arrOf f n := by
  apply Array.ext
  · simp [hs]
  · intro i h1 h2
    rw [arrOf_get]
    have := h i (by omega)
    rw [Array.getElem?_eq_getElem h1] at this
    exact Option.some.inj this

theorem add64 (x y c : Int) (hx : 0 ≤ x) (hy : 0 ≤ y) (hc0 : 0 ≤ c) (hc : c ≤ 1) (w : World) : (callFunc 61 #[.int .u64 x, .int .u64 y, .int .u64 c]).run Tryd.prog w =
    .ok (.value (.tuple #[.int .u64 ((x + y + c) % 18446744073709551616), .int .u64 ((x + y + c) / 18446744073709551616)])) w := by
  rw [run_callFunc_extern Tryd.func61 (by kernel_rfl) (by kernel_rfl) (by kernel_rfl) (e := add64Entry) (by kernel_rfl), run_add64 x y c hx hy hc0 hc]
  rfl

def sub64E : Array Value → Sem Value := fun args => do
  let (x, y, b) ← Extern.MathBitsCarry.three "Sub64" args
  pure (Extern.MathBitsCarry.pair ((x + Extern.MathBitsCarry.m64 - y - b) % Extern.MathBitsCarry.m64) (if x < y + b then 1 else 0))
theorem run_sub64E (x y b : Nat) (hb : b ≤ 1) (w : World) :
    (sub64E #[.int .u64 x, .int .u64 y, .int .u64 b]).run Tryd.prog w =
      .ok (.tuple #[.int .u64 (((x + 18446744073709551616 - y - b) % 18446744073709551616 : Nat) : Int), .int .u64 ((if x < y + b then 1 else 0 : Nat) : Int)]) w := by
  have : b = 0 ∨ b = 1 := by omega
  rcases this with rfl | rfl <;> rfl
/-- what is borrowed -/
def bor (x y b : Int) : Int := if x < y + b then 1 else 0
theorem sub64 (x y b : Int) (hx : 0 ≤ x) (hy : 0 ≤ y) (hy' : y < 18446744073709551616) (hb0 : 0 ≤ b) (hb : b ≤ 1) (w : World) : (callFunc 20 #[.int .u64 x, .int .u64 y, .int .u64 b]).run Tryd.prog w =
    .ok (.value (.tuple #[.int .u64 ((x - y - b) % 18446744073709551616), .int .u64 (bor x y b)])) w := by
  obtain ⟨x, rfl⟩ := Int.eq_ofNat_of_zero_le hx
  obtain ⟨y, rfl⟩ := Int.eq_ofNat_of_zero_le hy
  obtain ⟨b, rfl⟩ := Int.eq_ofNat_of_zero_le hb0
  have e1 : (((x + 18446744073709551616 - y - b) % 18446744073709551616 : Nat) : Int) = ((x : Int) - y - b) % 18446744073709551616 := by omega
  have e2 : ((if x < y + b then 1 else 0 : Nat) : Int) = bor x y b := by unfold bor; split <;> split <;> omega
  rw [run_callFunc_extern Tryd.func20 (by kernel_rfl) (by kernel_rfl) (by kernel_rfl) (e := sub64E) (by kernel_rfl), run_sub64E x y b (by omega), ← e1, ← e2]
  rfl
end Go.Proofs.YtpfnfaekgaipjaaDoor

namespace Go.Proofs.YtpfnfaekgaipjaaDoor
open Go.RowKit
attribute [local go_sem ↓] Go.wp_at_zero Go.wp_at_succ
theorem setCell_drewN (w : World) (n : Nat) (a : Addr) (v : Value) : (w.drewN n).setCell a v = (w.setCell a v).drewN n := rfl
theorem alloc_drewN (w : World) (n : Nat) (o : Obj) : (w.drewN n).alloc o = (w.alloc o).drewN n := rfl
attribute [local go_sem] setCell_drewN alloc_drewN

/-- the carry into word k, and the sum's words -/
def carryW (x y : Nat → Int) : Nat → Int
  | 0 => 0
  | k + 1 => (x k + y k + carryW x y k) / 18446744073709551616
def sumW (x y : Nat → Int) (k : Nat) : Int := (x k + y k + carryW x y k) % 18446744073709551616

def Words (x : Nat → Int) : Prop := ∀ i, 0 ≤ x i ∧ x i ≤ 18446744073709551615
theorem carryW_01 {x y : Nat → Int} (hx : Words x) (hy : Words y) (k : Nat) : 0 ≤ carryW x y k ∧ carryW x y k ≤ 1 := by
  induction k with
  | zero => simp [carryW]
  | succ k ih => have := hx k; have := hy k; simp only [carryW]; omega
/-- the borrow from word k, and the difference's words -/
def borW (x y : Nat → Int) : Nat → Int
  | 0 => 0
  | k + 1 => bor (x k) (y k) (borW x y k)
def difW (x y : Nat → Int) (k : Nat) : Int := (x k - y k - borW x y k) % 18446744073709551616
theorem bor_01 (x y b : Int) : 0 ≤ bor x y b ∧ bor x y b ≤ 1 := by unfold bor; split <;> omega
theorem borW_01 (x y : Nat → Int) (k : Nat) : 0 ≤ borW x y k ∧ borW x y k ≤ 1 := by
  cases k with
  | zero => simp [borW]
  | succ k => exact bor_01 _ _ _

theorem below_alloc4 (w : World) (o1 o2 o3 o4 : Obj) (m : Nat) : Below w.heap.size w ((((((w.alloc o1).alloc o2).alloc o3).alloc o4).drewN m)) := by
  have h := ((((Below.refl w.heap.size w).alloc (Nat.le_refl _) o1).alloc (by simp) o2).alloc (by simp; omega) o3).alloc (by simp; omega) o4
  exact ⟨h.os, h.tape, h.output, h.size, h.block⟩
theorem below_alloc3 (w : World) (o1 o2 o3 : Obj) (m : Nat) : Below w.heap.size w (((((w.alloc o1).alloc o2).alloc o3).drewN m)) := by
  have h := (((Below.refl w.heap.size w).alloc (Nat.le_refl _) o1).alloc (by simp) o2).alloc (by simp; omega) o3
  exact ⟨h.os, h.tape, h.output, h.size, h.block⟩
theorem set_next {ss : Array Value} {k : Nat} {f : Nat → Int} (hss : ∀ j h, ss[j]'h = Value.int .u64 (if j < k then f j else 0)) (j : Nat) (h : j < (ss.setIfInBounds k (.int .u64 (f k))).size) : (ss.setIfInBounds k (.int .u64 (f k)))[j]'h = Value.int .u64 (if j < k + 1 then f j else 0) := by
  have h' : j < ss.size := by simpa using h
  rw [Array.getElem_setIfInBounds]
  by_cases e : k = j
  · subst e; simp
  · rw [if_neg e, hss j h']
    by_cases e2 : j < k
    · simp [e2, Nat.lt_succ_of_lt e2]
    · simp [e2, show ¬ j < k + 1 by omega]
  exact h'





end Go.Proofs.YtpfnfaekgaipjaaDoor

namespace Go.Proofs.YtpfnfaekgaipjaaDoor
open Go.RowKit
attribute [local go_sem] setCell_drewN alloc_drewN

set_option maxHeartbeats 1000000 in
theorem div64_0 (lo y : Int) (w : World) (hl : 0 ≤ lo ∧ lo ≤ 18446744073709551615) (hy : 0 < y ∧ y ≤ 18446744073709551615) :
    Calls Tryd.prog 58 #[.int .u64 0, .int .u64 lo, .int .u64 y] w fun e w' => e = .returned (.tuple #[.int .u64 (lo / y), .int .u64 (lo % y)]) ∧ ∃ m, w' = w.drewN m := by
  have hy0 : ¬ y = 0 := by omega
  go_enter Tryd.func58, Tryd.ntmps58
  go_wp2
  go_quiet (fail)
  go_wp2
  go_ret2
  exact ⟨rfl, _, rfl⟩

/-- the rest ahead of word n - 1 - j, and the quotient's words -/
def remJ (x : Nat → Int) (d : Int) (n : Nat) : Nat → Int
  | 0 => 0
  | j + 1 => (remJ x d n j * 18446744073709551616 + x (n - 1 - j)) % d
def quoW (x : Nat → Int) (d : Int) (n j : Nat) : Int := (remJ x d n (n - 1 - j) * 18446744073709551616 + x j) / d
theorem remJ_bd (x : Nat → Int) (d : Int) (n j : Nat) (hd : 0 < d) : 0 ≤ remJ x d n j ∧ remJ x d n j < d := by
  cases j with
  | zero => exact ⟨Int.le_refl _, hd⟩
  | succ j => exact ⟨Int.emod_nonneg _ (by omega), Int.emod_lt_of_pos _ hd⟩
theorem bcell {W w1 : World} (hb : Below W.heap.size W w1) : (∀ b o, b < W.heap.size → w1.cell? ⟨b, o, none⟩ = W.cell? ⟨b, o, none⟩) ∧ (∀ b o, b < W.heap.size → w1.frozen? ⟨b, o, none⟩ = W.frozen? ⟨b, o, none⟩) :=
  ⟨fun b o h => hb.cell (p := ⟨b, o, none⟩) h, fun b o h => hb.frozen (p := ⟨b, o, none⟩) h⟩


end Go.Proofs.YtpfnfaekgaipjaaDoor
