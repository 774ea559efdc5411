/-
  Texts that the proof leans on.
-/
import Derived.StillTail
import Derived.Below
import Derived.WalkKit
set_option linter.unusedVariables false
set_option linter.unusedSimpArgs false
set_option linter.unusedSectionVars false
set_option maxRecDepth 20000
namespace Go.Proofs.YtgknbdehlmlipaaGreatDoor
open Go.RowKit
section
section
variable {P : Program} {ops : Array Oper} {Q : Exit → Act → World → Prop} {md : Region.Mode}

/-- how many of the first n are still to come -/
def toCome (listed : Array Bool) : Nat → Nat
  | 0 => 0
  | n + 1 => toCome listed n + (if listed.getD n true then 0 else 1)
theorem toCome_out {listed : Array Bool} {i : Nat} : ∀ n, n ≤ i → toCome (listed.setIfInBounds i true) n = toCome listed n
  | 0, _ => rfl
  | n + 1, h => by unfold toCome; rw [toCome_out n (by omega), getD_set_ne true (by omega)]
theorem toCome_set {listed : Array Bool} {i : Nat} (hu : listed.getD i true = false) : ∀ n, i < n → toCome (listed.setIfInBounds i true) n + 1 = toCome listed n
  | 0, h => by omega
  | n + 1, h => by
    unfold toCome
    by_cases e : i = n
    · subst e
      have hlt : i < listed.size := by
        rcases Nat.lt_or_ge i listed.size with h' | h'
        · exact h'
        · simp [Array.getElem?_eq_none h'] at hu
      rw [toCome_out i (Nat.le_refl _), hu]
      simp [hlt]
    · rw [getD_set_ne true e]
      have := toCome_set hu n (by omega)
      omega
theorem toCome_zero {listed : Array Bool} : ∀ n, toCome listed n = 0 → ∀ i, i < n → listed.getD i true = true
  | 0, _, i, h => by omega
  | n + 1, h, i, hi => by
    unfold toCome at h
    by_cases e : i = n
    · subst e
      by_cases hl : listed.getD i true = true
      · exact hl
      · rw [if_neg hl] at h; omega
    · exact toCome_zero n (by omega) i (by omega)
theorem toCome_least {listed : Array Bool} : ∀ n, 0 < toCome listed n → ∃ i, i < n ∧ listed.getD i true = false ∧ ∀ j, j < i → listed.getD j true = true
  | 0, h => by simp [toCome] at h
  | n + 1, h => by
    by_cases h0 : 0 < toCome listed n
    · obtain ⟨i, h1, h2, h3⟩ := toCome_least n h0
      exact ⟨i, by omega, h2, h3⟩
    · unfold toCome at h
      have hz := toCome_zero (listed := listed) n (by omega)
      refine ⟨n, by omega, ?_, fun j hj => hz j hj⟩
      cases hl : listed.getD n true with
      | false => rfl
      | true => rw [hl, if_pos rfl] at h; omega

/-- of the first n each waits for earlier ones alone -/
def backB (md : Region.Mode) (ops : Array Oper) (n : Nat) : Bool :=
  (List.range n).all fun i => match ops[i]? with
    | some o => o.after.all fun e => !Region.binds md e || decide (e.on < i)
    | none => false
theorem backB_spec {n : Nat} (h : backB md ops n = true) (i : Nat) (hi : i < n) : ∃ o, ops[i]? = some o ∧ ∀ e ∈ o.after, Region.binds md e = true → e.on < i := by
  have h1 := List.all_eq_true.1 h i (List.mem_range.2 hi)
  cases ho : ops[i]? with
  | none => simp only [ho] at h1; cases h1
  | some o =>
    simp only [ho] at h1
    refine ⟨o, rfl, fun e he hb => ?_⟩
    have h2 := Array.all_eq_true_iff_forall_mem.1 h1 e he
    simpa [hb] using h2

theorem getD_true_in {listed : Array Bool} {i : Nat} (hi : i < listed.size) (h : listed.getD i true = true) : listed.getD i false = true := by
  simp [hi] at h ⊢; exact h

/-- what stands when the first n are done -/
def headDone (n m : Nat) : Array Bool := (List.replicate n true ++ List.replicate (m - n) false).toArray

theorem headDone_eq {n : Nat} {listed : Array Bool} (hn : n ≤ ops.size) (inv : HeadInv md ops n listed) (h : ∀ i, i < n → listed.getD i true = true) : listed = headDone n ops.size := by
  apply Array.ext
  · simp [headDone, inv.size]; omega
  · intro i h1 h2
    by_cases hi : i < n
    · have := h i hi
      simp [h1] at this
      rw [this]
      simp [headDone, List.getElem_append, hi]
    · have := inv.tail i (by omega) (by rw [← inv.size]; exact h1)
      simp [h1] at this
      rw [this]
      simp [headDone, List.getElem_append, hi]

theorem wpAny_inv {n : Nat} {B : Act → World → Prop} {R : Nat → Act → World → Prop} {tail : List Oper} (hs : Region.sinkB md ops n = true) (hc : Region.chainB md ops n = true) (hn : n < ops.size) (hb : backB md ops n = true)
    (htl : ∀ j, tail[j]? = ops[n + j]?) (hseq : Region.seqB md ops tail.length n (headDone n ops.size) = true)
    (hstep : ∀ i o a w, i < n → ops[i]? = some o → B a w → (∀ e ∈ o.after, Region.binds md e = true → R e.on a w) → wpOp P ops Q i (fun a' w' => B a' w' ∧ R i a' w' ∧ ∀ j, j < n → j ≠ i → R j a w → R j a' w') a w)
    (hend : ∀ a w, B a w → (∀ i, i < n → R i a w) → wpList P ops Q tail a w) :
    ∀ (f : Nat) (listed : Array Bool) (a : Act) (w : World), HeadInv md ops n listed → toCome listed n = f → B a w → (∀ i, i < n → listed.getD i false = true → R i a w) → wpAny P md ops Q (f + tail.length) listed a w
  | 0, listed, a, w, inv, hf, hB, hR => by
    have hz := toCome_zero n hf
    have he := headDone_eq (Nat.le_of_lt hn) inv hz
    have hw := hend a w hB fun i hi => hR i hi (getD_true_in (by rw [inv.size]; omega) (hz i hi))
    rw [Nat.zero_add, he]
    exact wpAny_of_seq tail n _ a w htl hseq hw
  | f + 1, listed, a, w, inv, hf, hB, hR => by
    obtain ⟨k, hk, hku, hkl⟩ := toCome_least (listed := listed) n (by omega)
    rw [show f + 1 + tail.length = (f + tail.length) + 1 by omega]
    refine ⟨fun h0 => ?_, fun i hi => ?_⟩
    · obtain ⟨o, ho, hlt⟩ := backB_spec hb k hk
      have : k ∈ Region.ready md ops listed := mem_ready.2 ⟨hku, o, ho, fun e he hbd => by
        have := hlt e he hbd
        exact getD_true_in (by rw [inv.size]; omega) (hkl _ this)⟩
      rw [h0] at this; cases this
    · have hin : i < n := by
        rcases Nat.lt_or_ge i n with h | h
        · exact h
        · exact absurd hi (tail_waits hs hc hn inv _ k rfl hk hku i h)
      obtain ⟨hu, o, ho, hall⟩ := mem_ready.1 hi
      obtain ⟨o', ho', hlt⟩ := backB_spec hb i hin
      have : o' = o := Option.some.inj (ho'.symm.trans ho)
      subst this
      refine wpOp_mono (fun a' w' h3 => ?_) (hstep i o' a w hin ho hB fun e he hbd => hR _ (by have := hlt e he hbd; omega) (hall e he hbd))
      refine wpAny_inv hs hc hn hb htl hseq hstep hend f _ a' w' (inv.set hi hin) (by have := toCome_set hu n hin; omega) h3.1 fun j hj hl => ?_
      by_cases e : j = i
      · subst e; exact h3.2.1
      · rw [getD_set_ne false (fun h => e h.symm)] at hl
        exact h3.2.2 j hj e (hR j hj hl)

theorem toCome_replicate (m : Nat) : ∀ n, n ≤ m → toCome (Array.replicate m false) n = n
  | 0, _ => rfl
  | n + 1, h => by unfold toCome; rw [toCome_replicate m n (by omega)]; simp [show n < m by omega]

/-- all the checks of a region in one -/
def invB (md : Region.Mode) (ops : Array Oper) (n : Nat) : Bool :=
  Region.sinkB md ops n && Region.chainB md ops n && decide (n < ops.size) && backB md ops n && Region.seqB md ops (ops.size - n) n (headDone n ops.size)

theorem wp_region_inv (n : Nat) (B : Act → World → Prop) (R : Nat → Act → World → Prop) {id : Nat} {l : List Oper} {a : Act} {w : World} (hm : P.follows .mixedOrders = true) (hI : invB .any l.toArray n = true)
    (h0 : B a w.drew)
    (hstep : ∀ i o a w, i < n → l[i]? = some o → B a w → (∀ e ∈ o.after, Region.binds .any e = true → R e.on a w) → wpOp P l.toArray Q i (fun a' w' => B a' w' ∧ R i a' w' ∧ ∀ j, j < n → j ≠ i → R j a w → R j a' w') a w)
    (hend : ∀ a w, B a w → (∀ i, i < n → R i a w) → wpList P l.toArray Q (l.drop n) a w) : (Code.region id l.toArray true).wp P Q a w := by
  simp only [invB, Bool.and_eq_true, decide_eq_true_eq] at hI
  obtain ⟨⟨⟨⟨hs, hc⟩, hn⟩, hb⟩, hseq⟩ := hI
  have hdl : (l.drop n).length = l.toArray.size - n := by simp
  refine wp_region_any hm ?_
  have H := wpAny_inv (P := P) (Q := Q) (md := .any) (ops := l.toArray) (n := n) (B := B) (R := R) (tail := l.drop n) hs hc hn hb (fun j => by simp [List.getElem?_drop]) (by rw [hdl]; exact hseq)
    (fun i o a w hi ho => hstep i o a w hi (by simpa using ho)) hend n (Array.replicate l.toArray.size false) a w.drew
    ⟨by simp, fun j oj _ hl => (by rw [getD_replicate_false] at hl; cases hl), fun t _ ht => getD_in (by simpa using ht) (getD_replicate_false _ _)⟩
    (toCome_replicate _ n (Nat.le_of_lt hn)) h0 (fun i hi hl => by rw [getD_replicate_false] at hl; cases hl)
  rw [hdl, show n + (l.toArray.size - n) = l.toArray.size by omega] at H
  exact H

/-- what slot t of a frame holds -/
abbrev slot (a : Act) (t : Nat) : Value := a.tmps[t]?.getD undef
theorem slot_put_ne {a : Act} {d t : Nat} {v : Value} (h : d ≠ t) : slot (a.put (some d) v) t = slot a t := by
  simp [slot, Act.put, Array.getElem?_setIfInBounds_ne h]
theorem slot_put {a : Act} {d : Nat} {v : Value} (h : d < a.tmps.size) : slot (a.put (some d) v) d = v := by
  simp [slot, Act.put, h]

/-- what is said of a value stays, whatever memory is made -/
def Stays (p : Value → World → Prop) : Prop := ∀ v w w', p v w → Below w.heap.size w w' → p v w'

/-- each of the first n writes a slot of its own -/
def dstG (l : List Oper) (D : List Nat) (n m : Nat) : Bool :=
  (List.range n).all fun i => (match l[i]? with
    | some o => o.dst == some (D.getD i 0)
    | none => false) && decide (D.getD i 0 < m) && (List.range n).all fun j => j == i || D.getD j 0 != D.getD i 0
theorem dstG_spec {l : List Oper} {D : List Nat} {n m : Nat} (h : dstG l D n m = true) (i : Nat) (hi : i < n) :
    ∃ o, l[i]? = some o ∧ o.dst = some (D.getD i 0) ∧ D.getD i 0 < m ∧ ∀ j, j < n → j ≠ i → D.getD j 0 ≠ D.getD i 0 := by
  have h1 := List.all_eq_true.1 h i (List.mem_range.2 hi)
  cases ho : l[i]? with
  | none => simp [ho] at h1
  | some o =>
    simp only [ho, Bool.and_eq_true, decide_eq_true_eq, beq_iff_eq, List.all_eq_true, Bool.or_eq_true, bne_iff_ne, List.mem_range] at h1
    exact ⟨o, rfl, h1.1.1, h1.1.2, fun j hj hne => (h1.2 j hj).resolve_left hne⟩
/-- what an operation's guard looks at is done ahead of it -/
def gdB (l : List Oper) (n : Nat) : Bool :=
  (List.range n).all fun i => match l[i]? with
    | some o => match o.guard with
      | none => true
      | some (j, _) => decide (j < n) && o.after.any fun e => Region.binds .any e && e.on == j
    | none => false
theorem gdB_spec {l : List Oper} {n : Nat} (h : gdB l n = true) (i : Nat) (hi : i < n) (o : Oper) (ho : l[i]? = some o) (j : Nat) (b : Bool) (hg : o.guard = some (j, b)) :
    j < n ∧ ∃ e ∈ o.after, Region.binds .any e = true ∧ e.on = j := by
  have h1 := List.all_eq_true.1 h i (List.mem_range.2 hi)
  simp only [ho, hg, Bool.and_eq_true, decide_eq_true_eq, Array.any_eq_true', beq_iff_eq] at h1
  obtain ⟨h1, e, he, h2, h3⟩ := h1
  exact ⟨h1, e, he, h2, h3⟩

/-- wp_region_vals, with guards that are known to be met -/
theorem wp_region_gvals (n m : Nat) (D : List Nat) (S : List (Value → World → Prop)) (C : World → Prop) {id : Nat} {l : List Oper} {a0 : Act} {w0 : World} (hm : P.follows .mixedOrders = true) (hI : invB .any l.toArray n = true) (hD : dstG l D n m = true) (hGd : gdB l n = true)
    (hsz : a0.tmps.size = m) (hS : ∀ p ∈ S, Stays p) (hC0 : C w0.drew) (hCn : ∀ w w', C w → Below w.heap.size w w' → C w')
    (hGv : ∀ i o j b, i < n → l[i]? = some o → o.guard = some (j, b) → ∀ v w, (S.getD j fun _ _ => True) v w → v = .bool b)
    (hstep : ∀ i o a w, i < n → l[i]? = some o → C w → (∀ t, (∀ i, i < n → D.getD i 0 ≠ t) → slot a t = slot a0 t) → (∀ e ∈ o.after, Region.binds .any e = true → (S.getD e.on fun _ _ => True) (slot a (D.getD e.on 0)) w) →
      o.wp P a w (fun a' w' => ∃ v, a' = a.put o.dst v ∧ (S.getD i fun _ _ => True) v w' ∧ Below w.heap.size w w') Q)
    (hend : ∀ a w, C w → a.tmps.size = m → a.defers = a0.defers → (∀ t, (∀ i, i < n → D.getD i 0 ≠ t) → slot a t = slot a0 t) → (∀ i, i < n → (S.getD i fun _ _ => True) (slot a (D.getD i 0)) w) → wpList P l.toArray Q (l.drop n) a w) :
    (Code.region id l.toArray true).wp P Q a0 w0 := by
  have hSt : ∀ i, Stays (S.getD i fun _ _ => True) := by
    intro i
    rcases Nat.lt_or_ge i S.length with h | h
    · rw [List.getD_eq_getElem?_getD, List.getElem?_eq_getElem h]; exact hS _ (List.getElem_mem h)
    · rw [List.getD_eq_getElem?_getD, List.getElem?_eq_none h]; exact fun _ _ _ _ _ => trivial
  refine wp_region_inv n (fun a w => C w ∧ a.tmps.size = m ∧ a.defers = a0.defers ∧ ∀ t, (∀ i, i < n → D.getD i 0 ≠ t) → slot a t = slot a0 t)
    (fun i a w => (S.getD i fun _ _ => True) (slot a (D.getD i 0)) w) hm hI ⟨hC0, hsz, rfl, fun _ _ => rfl⟩ ?_ (fun a w h hR => hend a w h.1 h.2.1 h.2.2.1 h.2.2.2 hR)
  intro i o a w hi ho hB hR
  obtain ⟨o', ho2, hd, hlt, hne⟩ := dstG_spec hD i hi
  have eo : o' = o := Option.some.inj (ho2.symm.trans ho)
  subst eo
  have hw := hstep i o' a w hi ho hB.1 hB.2.2.2 hR
  unfold wpOp
  have ho' : l.toArray[i]? = some o' := by simpa using ho
  simp only [ho']
  have hwant : Region.wanted o' (yielded l.toArray a.tmps) = true := by
    unfold Region.wanted
    cases hg : o'.guard with
    | none => rfl
    | some q =>
      obtain ⟨j, b⟩ := q
      obtain ⟨hj, e, he, hbd, hej⟩ := gdB_spec hGd i hi o' ho j b hg
      have hv := hR e he hbd
      rw [hej] at hv
      have hv2 := hGv i o' j b hi ho hg _ _ hv
      obtain ⟨oj, hoj, hdj, hltj, _⟩ := dstG_spec hD j hj
      have hoj' : l.toArray[j]? = some oj := by simpa using hoj
      have hs : D.getD j 0 < a.tmps.size := by rw [hB.2.1]; exact hltj
      have ht : a.tmps[D.getD j 0]? = some (.bool b) := by
        have h5 : a.tmps[D.getD j 0]? = some a.tmps[D.getD j 0] := Array.getElem?_eq_getElem hs
        have h6 : slot a (D.getD j 0) = a.tmps[D.getD j 0] := by unfold slot; rw [h5]; rfl
        rw [h5, ← h6, hv2]
      have hy : yielded l.toArray a.tmps j = some b := by
        unfold yielded
        simp only [hoj', Option.bind_some, hdj, ht]
      simp [hy]
  rw [if_pos hwant]
  refine Or.inl (Oper.wp_mono ?_ hw)
  rintro a' w' ⟨v, rfl, hv, hb⟩
  rw [hd]
  refine ⟨⟨hCn _ _ hB.1 hb, by simp [Act.put, hB.2.1], hB.2.2.1, fun t ht => ?_⟩, ?_, fun j hj hji hRj => ?_⟩
  · rw [slot_put_ne (ht i hi)]; exact hB.2.2.2 t ht
  · show (S.getD i fun _ _ => True) (slot (a.put (some (D.getD i 0)) v) (D.getD i 0)) w'
    rw [slot_put (by rw [hB.2.1]; exact hlt)]; exact hv
  · show (S.getD j fun _ _ => True) (slot (a.put (some (D.getD i 0)) v) (D.getD j 0)) w'
    rw [slot_put_ne (fun h => hne j hj hji h.symm)]
    exact hSt j _ _ _ hRj hb
end
end
section
section
variable {P : Program} {ops : Array Oper} {Q : Exit → Act → World → Prop} {md : Region.Mode}
theorem listed_set {listed : Array Bool} {i : Nat} (hi : i < listed.size) : (fun j => (listed.setIfInBounds i true).getD j false = true) = (fun j => listed.getD j false = true ∨ j = i) := by
  funext j
  apply propext
  by_cases e : j = i
  · subst e
    simp [hi]
  · rw [getD_set_ne false (fun h => e h.symm)]
    simp [e]
/-- 'B L a w': what stands where just the operations of L are done -/
theorem wpAny_inv3 {n : Nat} {B : (Nat → Prop) → Act → World → Prop} {tail : List Oper} (hs : Region.sinkB md ops n = true) (hc : Region.chainB md ops n = true) (hn : n < ops.size) (hb : backB md ops n = true)
    (htl : ∀ j, tail[j]? = ops[n + j]?) (hseq : Region.seqB md ops tail.length n (headDone n ops.size) = true)
    (hstep : ∀ (L : Nat → Prop) i o a w, i < n → ops[i]? = some o → ¬ L i → (∀ j oj, ops[j]? = some oj → L j → ∀ e ∈ oj.after, Region.binds md e = true → L e.on) → (∀ e ∈ o.after, Region.binds md e = true → L e.on) → B L a w → wpOp P ops Q i (fun a' w' => B (fun j => L j ∨ j = i) a' w') a w)
    (hend : ∀ (L : Nat → Prop) a w, (∀ i, i < n → L i) → B L a w → wpList P ops Q tail a w) :
    ∀ (f : Nat) (listed : Array Bool) (a : Act) (w : World), HeadInv md ops n listed → toCome listed n = f → B (fun j => listed.getD j false = true) a w → wpAny P md ops Q (f + tail.length) listed a w
  | 0, listed, a, w, inv, hf, hB => by
    have hz := toCome_zero n hf
    have he := headDone_eq (Nat.le_of_lt hn) inv hz
    have hw := hend _ a w (fun i hi => getD_true_in (by rw [inv.size]; omega) (hz i hi)) hB
    rw [Nat.zero_add, he]
    exact wpAny_of_seq tail n _ a w htl hseq hw
  | f + 1, listed, a, w, inv, hf, hB => by
    obtain ⟨k, hk, hku, hkl⟩ := toCome_least (listed := listed) n (by omega)
    rw [show f + 1 + tail.length = (f + tail.length) + 1 by omega]
    refine ⟨fun h0 => ?_, fun i hi => ?_⟩
    · obtain ⟨o, ho, hlt⟩ := backB_spec hb k hk
      have : k ∈ Region.ready md ops listed := mem_ready.2 ⟨hku, o, ho, fun e he hbd => by
        have := hlt e he hbd
        exact getD_true_in (by rw [inv.size]; omega) (hkl _ this)⟩
      rw [h0] at this; cases this
    · have hin : i < n := by
        rcases Nat.lt_or_ge i n with h | h
        · exact h
        · exact absurd hi (tail_waits hs hc hn inv _ k rfl hk hku i h)
      obtain ⟨hu, o, ho, hall⟩ := mem_ready.1 hi
      refine wpOp_mono (fun a' w' h3 => ?_) (hstep (fun j => listed.getD j false = true) i o a w hin ho (by show ¬ (listed.getD i false = true); rw [getD_both hu]; decide) inv.closed hall hB)
      refine wpAny_inv3 hs hc hn hb htl hseq hstep hend f _ a' w' (inv.set hi hin) (by have := toCome_set hu n hin; omega) ?_
      rw [listed_set (by rw [inv.size]; omega)]
      exact h3
theorem wp_region_inv3 (n : Nat) (B : (Nat → Prop) → Act → World → Prop) {id : Nat} {l : List Oper} {a : Act} {w : World} (hm : P.follows .mixedOrders = true) (hI : invB .any l.toArray n = true)
    (h0 : B (fun _ => False) a w.drew)
    (hstep : ∀ (L : Nat → Prop) i o a w, i < n → l[i]? = some o → ¬ L i → (∀ j oj, l[j]? = some oj → L j → ∀ e ∈ oj.after, Region.binds .any e = true → L e.on) → (∀ e ∈ o.after, Region.binds .any e = true → L e.on) → B L a w → wpOp P l.toArray Q i (fun a' w' => B (fun j => L j ∨ j = i) a' w') a w)
    (hend : ∀ (L : Nat → Prop) a w, (∀ i, i < n → L i) → B L a w → wpList P l.toArray Q (l.drop n) a w) : (Code.region id l.toArray true).wp P Q a w := by
  simp only [invB, Bool.and_eq_true, decide_eq_true_eq] at hI
  obtain ⟨⟨⟨⟨hs, hc⟩, hn⟩, hb⟩, hseq⟩ := hI
  have hdl : (l.drop n).length = l.toArray.size - n := by simp
  refine wp_region_any hm ?_
  have hf0 : (fun j => (Array.replicate l.toArray.size false).getD j false = true) = fun _ => False := by
    funext j
    rw [getD_replicate_false]
    simp
  have H := wpAny_inv3 (P := P) (Q := Q) (md := .any) (ops := l.toArray) (n := n) (B := B) (tail := l.drop n) hs hc hn hb (fun j => by simp [List.getElem?_drop]) (by rw [hdl]; exact hseq)
    (fun L i o a w hi ho hL hcl he hB => hstep L i o a w hi (by simpa using ho) hL (fun j oj hj => hcl j oj (by simpa using hj)) he hB) hend n (Array.replicate l.toArray.size false) a w.drew
    ⟨by simp, fun j oj _ hl => (by rw [getD_replicate_false] at hl; cases hl), fun t _ ht => getD_in (by simpa using ht) (getD_replicate_false _ _)⟩
    (toCome_replicate _ n (by simpa using Nat.le_of_lt hn)) (by rw [hf0]; exact h0)
  rw [hdl] at H
  have : n + (l.toArray.size - n) = l.toArray.size := by omega
  rw [this] at H
  exact H
end
end
section
section
variable {P : Program} {ops : Array Oper} {Q : Exit → Act → World → Prop} {md : Region.Mode}
theorem wpAny_inv0 {B : Act → World → Prop} {R : Nat → Act → World → Prop} (hb : backB md ops ops.size = true)
    (hstep : ∀ i o a w, ops[i]? = some o → B a w → (∀ e ∈ o.after, Region.binds md e = true → R e.on a w) → wpOp P ops Q i (fun a' w' => B a' w' ∧ R i a' w' ∧ ∀ j, j < ops.size → j ≠ i → R j a w → R j a' w') a w)
    (hend : ∀ a w, B a w → (∀ i, i < ops.size → R i a w) → Q .normal a w) :
    ∀ (f : Nat) (listed : Array Bool) (a : Act) (w : World), listed.size = ops.size → toCome listed ops.size = f → B a w → (∀ i, i < ops.size → listed.getD i false = true → R i a w) → wpAny P md ops Q f listed a w
  | 0, listed, a, w, hsz, hf, hB, hR => by
    have hz := toCome_zero ops.size hf
    refine ⟨?_, hend a w hB fun i hi => hR i hi (getD_true_in (by rw [hsz]; exact hi) (hz i hi))⟩
    refine List.eq_nil_iff_forall_not_mem.2 fun j hj => ?_
    obtain ⟨hu, o, ho, _⟩ := mem_ready.1 hj
    have hlt : j < ops.size := (Array.getElem?_eq_some_iff.1 ho).1
    rw [hz j hlt] at hu; cases hu
  | f + 1, listed, a, w, hsz, hf, hB, hR => by
    obtain ⟨k, hk, hku, hkl⟩ := toCome_least (listed := listed) ops.size (by omega)
    refine ⟨fun h0 => ?_, fun i hi => ?_⟩
    · obtain ⟨o, ho, hlt⟩ := backB_spec hb k hk
      have : k ∈ Region.ready md ops listed := mem_ready.2 ⟨hku, o, ho, fun e he hbd => by
        have := hlt e he hbd
        exact getD_true_in (by rw [hsz]; omega) (hkl _ this)⟩
      rw [h0] at this; cases this
    · obtain ⟨hu, o, ho, hall⟩ := mem_ready.1 hi
      have hin : i < ops.size := (Array.getElem?_eq_some_iff.1 ho).1
      obtain ⟨o', ho', hlt⟩ := backB_spec hb i hin
      obtain rfl : o' = o := Option.some.inj (ho'.symm.trans ho)
      refine wpOp_mono (fun a' w' h3 => ?_) (hstep i o' a w ho hB fun e he hbd => hR _ (by have := hlt e he hbd; omega) (hall e he hbd))
      refine wpAny_inv0 hb hstep hend f _ a' w' (by simp [hsz]) (by have := toCome_set hu ops.size hin; omega) h3.1 fun j hj hl => ?_
      by_cases e : j = i
      · subst e; exact h3.2.1
      · rw [getD_set_ne false (fun h => e h.symm)] at hl
        exact h3.2.2 j hj e (hR j hj hl)

/-- wp_region_gvals, of a region all of whose operations leave a value -/
theorem wp_region_gall (m : Nat) (D : List Nat) (S : List (Value → World → Prop)) (C : World → Prop) {id : Nat} {l : List Oper} {a0 : Act} {w0 : World} (hm : P.follows .mixedOrders = true) (hI : backB .any l.toArray l.length = true) (hD : dstG l D l.length m = true) (hGd : gdB l l.length = true)
    (hsz : a0.tmps.size = m) (hS : ∀ p ∈ S, Stays p) (hC0 : C w0.drew) (hCn : ∀ w w', C w → Below w.heap.size w w' → C w')
    (hGv : ∀ i o j b, i < l.length → l[i]? = some o → o.guard = some (j, b) → ∀ v w, (S.getD j fun _ _ => True) v w → v = .bool b)
    (hstep : ∀ i o a w, i < l.length → l[i]? = some o → C w → (∀ t, (∀ i, i < l.length → D.getD i 0 ≠ t) → slot a t = slot a0 t) → (∀ e ∈ o.after, Region.binds .any e = true → (S.getD e.on fun _ _ => True) (slot a (D.getD e.on 0)) w) →
      o.wp P a w (fun a' w' => ∃ v, a' = a.put o.dst v ∧ (S.getD i fun _ _ => True) v w' ∧ Below w.heap.size w w') Q)
    (hend : ∀ a w, C w → a.tmps.size = m → a.defers = a0.defers → (∀ t, (∀ i, i < l.length → D.getD i 0 ≠ t) → slot a t = slot a0 t) → (∀ i, i < l.length → (S.getD i fun _ _ => True) (slot a (D.getD i 0)) w) → Q .normal a w) :
    (Code.region id l.toArray true).wp P Q a0 w0 := by
  have hSt : ∀ i, Stays (S.getD i fun _ _ => True) := by
    intro i
    rcases Nat.lt_or_ge i S.length with h | h
    · rw [List.getD_eq_getElem?_getD, List.getElem?_eq_getElem h]; exact hS _ (List.getElem_mem h)
    · rw [List.getD_eq_getElem?_getD, List.getElem?_eq_none h]; exact fun _ _ _ _ _ => trivial
  have hsl : l.toArray.size = l.length := by simp
  refine wp_region_any hm ?_
  have H := wpAny_inv0 (P := P) (Q := Q) (md := .any) (ops := l.toArray) (B := fun a w => C w ∧ a.tmps.size = m ∧ a.defers = a0.defers ∧ ∀ t, (∀ i, i < l.length → D.getD i 0 ≠ t) → slot a t = slot a0 t)
    (R := fun i a w => (S.getD i fun _ _ => True) (slot a (D.getD i 0)) w) (by rw [hsl]; exact hI) ?_ (fun a w h hR => hend a w h.1 h.2.1 h.2.2.1 h.2.2.2 (fun i hi => hR i (by rw [hsl]; exact hi))) l.toArray.size (Array.replicate l.toArray.size false) a0 w0.drew (by simp) (toCome_replicate _ _ (Nat.le_refl _)) ⟨hC0, hsz, rfl, fun _ _ => rfl⟩ (fun i hi hl => by rw [getD_replicate_false] at hl; cases hl)
  · exact H
  intro i o a w ho0 hB hR
  have ho : l[i]? = some o := by simpa using ho0
  have hi : i < l.length := (List.getElem?_eq_some_iff.1 ho).1
  obtain ⟨o', ho2, hd, hlt, hne⟩ := dstG_spec hD i hi
  have eo : o' = o := Option.some.inj (ho2.symm.trans ho)
  subst eo
  have hw := hstep i o' a w hi ho hB.1 hB.2.2.2 hR
  unfold wpOp
  simp only [ho0]
  have hwant : Region.wanted o' (yielded l.toArray a.tmps) = true := by
    unfold Region.wanted
    cases hg : o'.guard with
    | none => rfl
    | some q =>
      obtain ⟨j, b⟩ := q
      obtain ⟨hj, e, he, hbd, hej⟩ := gdB_spec hGd i hi o' ho j b hg
      have hv := hR e he hbd
      rw [hej] at hv
      have hv2 := hGv i o' j b hi ho hg _ _ hv
      obtain ⟨oj, hoj, hdj, hltj, _⟩ := dstG_spec hD j hj
      have hoj' : l.toArray[j]? = some oj := by simpa using hoj
      have hs : D.getD j 0 < a.tmps.size := by rw [hB.2.1]; exact hltj
      have ht : a.tmps[D.getD j 0]? = some (.bool b) := by
        have h5 : a.tmps[D.getD j 0]? = some a.tmps[D.getD j 0] := Array.getElem?_eq_getElem hs
        have h6 : slot a (D.getD j 0) = a.tmps[D.getD j 0] := by unfold slot; rw [h5]; rfl
        rw [h5, ← h6, hv2]
      have hy : yielded l.toArray a.tmps j = some b := by
        unfold yielded
        simp only [hoj', Option.bind_some, hdj, ht]
      simp [hy]
  rw [if_pos hwant]
  refine Or.inl (Oper.wp_mono ?_ hw)
  rintro a' w' ⟨v, rfl, hv, hb⟩
  rw [hd]
  refine ⟨⟨hCn _ _ hB.1 hb, by simp [Act.put, hB.2.1], hB.2.2.1, fun t ht => ?_⟩, ?_, fun j hj hji hRj => ?_⟩
  · rw [slot_put_ne (ht i hi)]; exact hB.2.2.2 t ht
  · show (S.getD i fun _ _ => True) (slot (a.put (some (D.getD i 0)) v) (D.getD i 0)) w'
    rw [slot_put (by rw [hB.2.1]; exact hlt)]; exact hv
  · show (S.getD j fun _ _ => True) (slot (a.put (some (D.getD i 0)) v) (D.getD j 0)) w'
    rw [slot_put_ne (fun h => hne j (by rw [← hsl]; exact hj) hji h.symm)]
    exact hSt j _ _ _ hRj hb
/-- this value -/
def isV (u : Value) : Value → World → Prop := fun v _ => v = u
theorem isV.stays (u : Value) : Stays (isV u) := fun v w w' h _ => h
end
end
end Go.Proofs.YtgknbdehlmlipaaGreatDoor
