/-
  Texts that the proof leans on.
-/
import Derived.Test.YtehgnckgmdkfmaaGreatDoorProg
import Derived.Below
import Derived.WalkKit
import Derived.BigQuiet
import Derived.StillTail
import Derived.RowKit
import Derived.Deep.QuietTactic
import Derived.Lib.Strings
set_option linter.unusedVariables false
set_option linter.unusedSectionVars false
set_option linter.unusedSimpArgs false
set_option maxRecDepth 20000
namespace Go.Proofs.YtehgnckgmdkfmaaGreatDoor
open Go.RowKit
theorem bgo {n : Nat} {a b : World} (h : Below n a b := by (repeat (first | with_reducible assumption | with_reducible exact Below.refl _ _ | with_reducible refine Below.setCell ?_ (by first | omega | (dsimp only; omega) | (simp <;> omega)) _ | with_reducible refine Below.alloc ?_ (by first | omega | (simp <;> omega)) _ | with_reducible refine Below.drew ?_))) : Below n a b := h
theorem ltg {a b : Nat} (h : a < b := by first | with_reducible assumption | (simp; done) | (simp; omega)) : a < b := h
/-- a world of the class p -/
structure Wd (p : World → Prop) where
  w : World
  h : p w

theorem calls_wd {P : Program} {p : World → Prop} {f : FuncId} {args : Array Value} {v : Value} (t : Wd p) (hp : ∀ w w', p w → Below w.heap.size w w' → p w')
    (h : Calls P f args t.w fun e w' => e = .returned v ∧ Below t.w.heap.size t.w w') : Calls P f args t.w fun e w'' => e = .returned v ∧ ∃ t' : Wd p, w'' = t'.w :=
  h.mono fun _ w' ⟨h1, h2⟩ => ⟨h1, ⟨w', hp _ _ t.h h2⟩, rfl⟩
section
section
variable {P : Program} {ops : Array Oper} {md : Region.Mode} {C : World → Prop}

/-- the first k of m have come up -/
def fdone (k m : Nat) : Array Bool := (List.replicate k true ++ List.replicate (m - k) false).toArray
theorem fdone_zero (m : Nat) : fdone 0 m = Array.replicate m false := by
  simp [fdone]
theorem fdone_next {k m : Nat} (h : k < m) : (fdone k m).setIfInBounds k true = fdone (k + 1) m := by
  apply Array.ext
  · simp [fdone]; omega
  · intro i h1 h2
    have hi : i < m := by simp [fdone] at h2; omega
    simp only [fdone, List.setIfInBounds_toArray, List.getElem_toArray, List.getElem_set, List.getElem_append, List.length_replicate, List.getElem_replicate]
    split
    · subst_vars; simp
    · by_cases hk : i < k
      · simp [hk, show i < k + 1 by omega]
      · simp [hk, show ¬ i < k + 1 by omega]
theorem fdone_out {k m j : Nat} (h : (fdone k m).getD j true = false) : k ≤ j := by
  rcases Nat.lt_or_ge j k with h1 | h1
  · simp [fdone, List.getElem?_append, h1] at h
  · exact h1

/-- every one behind n waits for one between n and itself -/
def chainC (md : Region.Mode) (ops : Array Oper) (n : Nat) : Bool :=
  (List.range ops.size).all fun t => decide (t ≤ n) || (List.range t).any fun s => decide (n ≤ s) && Region.waitsFor md ops t s
/-- all the checks of a head in one -/
def headB (md : Region.Mode) (ops : Array Oper) (n : Nat) : Bool :=
  Region.noSelect ops && decide (n < ops.size) && Region.sinkB md ops n && chainC md ops n && (List.range n).all fun k => (Region.ready md ops (fdone k ops.size)).contains k && Region.free md ops (fdone k ops.size) k

theorem waits_sink {n : Nat} {done : Array Bool} (hs : Region.sinkB md ops n = true) (hn : n < ops.size) (inv : HeadInv md ops n done) :
    ∀ (d i : Nat), n - i = d → i < n → done.getD i true = false → n ∉ Region.ready md ops done := by
  intro d
  induction d using Nat.strongRecOn with
  | _ d ih =>
    intro i hd hi hun hr
    obtain ⟨_, ot, hot, hall⟩ := mem_ready.1 hr
    obtain ⟨j, hj, hj2⟩ := List.any_eq_true.1 (List.all_eq_true.1 hs i (List.mem_range.2 hi))
    simp only [Bool.and_eq_true, decide_eq_true_eq] at hj2
    obtain ⟨oj, hoj, e, he, hb, hon⟩ := Region.waitsFor_spec hj2.2
    have hjle : j ≤ n := by have := List.mem_range.1 hj; omega
    by_cases hjn : j = n
    · subst hjn
      obtain rfl : oj = ot := Option.some.inj (hoj.symm.trans hot)
      have h2 := hall e he hb
      rw [hon, getD_both hun] at h2
      cases h2
    · cases hl : done.getD j false with
      | true =>
        have h2 := inv.closed j oj hoj hl e he hb
        rw [hon, getD_both hun] at h2
        cases h2
      | false =>
        exact ih (n - j) (by omega) j rfl (by omega) (getD_in (by rw [inv.size]; omega) hl) hr
theorem waits_tail {n i : Nat} {done : Array Bool} (hs : Region.sinkB md ops n = true) (hc : chainC md ops n = true) (hn : n < ops.size) (inv : HeadInv md ops n done) (hi : i < n) (hun : done.getD i true = false) (t : Nat) (ht : n ≤ t) : t ∉ Region.ready md ops done := by
  intro hr
  by_cases htn : t = n
  · subst htn; exact waits_sink hs hn inv _ i rfl hi hun hr
  · obtain ⟨_, ot, hot, hall⟩ := mem_ready.1 hr
    have htlt : t < ops.size := (Array.getElem?_eq_some_iff.1 hot).1
    have h1 := List.all_eq_true.1 hc t (List.mem_range.2 htlt)
    simp only [Bool.or_eq_true, decide_eq_true_eq] at h1
    rcases h1 with h1 | h1
    · omega
    · obtain ⟨s, hsm, hs2⟩ := List.any_eq_true.1 h1
      simp only [Bool.and_eq_true, decide_eq_true_eq] at hs2
      obtain ⟨o', ho', e, he, hb, hon⟩ := Region.waitsFor_spec hs2.2
      obtain rfl : o' = ot := Option.some.inj (ho'.symm.trans hot)
      have hst := List.mem_range.1 hsm
      have h2 := hall e he hb
      rw [hon, getD_both (inv.tail s hs2.1 (by omega))] at h2
      cases h2

/-- the first n come up in any order, each quiet in the class -/
def headQ (P : Program) (md : Region.Mode) (ops : Array Oper) (C : World → Prop) (n : Nat) (L : Array Bool → Act → Prop) : Nat → Array Bool → Act → Prop
  | 0, done, a => L done a
  | f + 1, done, a => Region.ready md ops done ≠ [] ∧ ∀ i ∈ Region.ready md ops done, i < n ∧ qOp P ops C i (headQ P md ops C n L f (done.setIfInBounds i true)) a

theorem headQ_any {n g : Nat} {L : Array Bool → Act → Prop} {Q : Exit → Act → World → Prop} (hL : ∀ done a w, C w → L done a → wpAny P md ops Q g done a w) :
    ∀ (f : Nat) (done : Array Bool) (a : Act) (w : World), C w → headQ P md ops C n L f done a → wpAny P md ops Q (f + g) done a w
  | 0, done, a, w, hw, h => by rw [Nat.zero_add]; exact hL _ _ _ hw h
  | f + 1, done, a, w, hw, h => by
    rw [show f + 1 + g = (f + g) + 1 by omega]
    exact ⟨fun h0 => absurd h0 h.1, fun i hi => wpOp_of_qOp hw (fun a' w' hw' h' => headQ_any hL f _ a' w' hw' h') (h.2 i hi).2⟩

theorem headQ_first {n i : Nat} {oi : Oper} {v : Value} {L : Array Bool → Act → Prop} (hi : ops[i]? = some oi) (hsel : ∀ (j : Nat) (o : Oper) cs b, ops[j]? = some o → o.op ≠ .select cs b)
    (hs : Region.sinkB md ops n = true) (hc : chainC md ops n = true) (hn : n < ops.size) (hin : i < n) (hend : ∀ done a, L done a → ∀ j ∈ Region.ready md ops done, n ≤ j) :
    ∀ (f : Nat) (done : Array Bool) (a : Act), HeadInv md ops n done →
      (∀ j oj, ops[j]? = some oj → j ≠ i → done.getD j true = false → (∀ e ∈ oj.after, Region.binds md e = true → e.on ≠ i) → oi.apart ops oj = true) →
      i ∈ Region.ready md ops done → YieldsIn P ops C oi v a → headQ P md ops C n L f (done.setIfInBounds i true) (a.put oi.dst v) → headQ P md ops C n L (f + 1) done a := by
  intro f
  induction f with
  | zero =>
    intro done a inv _ hr hy H
    refine ⟨fun h => (by rw [h] at hr; cases hr), fun j hj => ?_⟩
    have hjn : j < n := Nat.lt_of_not_le fun h => waits_tail hs hc hn inv hin (mem_ready.1 hr).1 j h hj
    refine ⟨hjn, ?_⟩
    by_cases hji : j = i
    · subst hji; exact hy.qOp hi H
    · have := hend _ _ H j (ready_mono hj hji)
      omega
  | succ f ih =>
    intro done a inv hfree hr hy H
    have hun := (mem_ready.1 hr).1
    refine ⟨fun h => (by rw [h] at hr; cases hr), fun j hj => ?_⟩
    have hjn : j < n := Nat.lt_of_not_le fun h => waits_tail hs hc hn inv hin hun j h hj
    refine ⟨hjn, ?_⟩
    by_cases hji : j = i
    · subst hji; exact hy.qOp hi H
    · obtain ⟨hjun, oj, hoj, hall⟩ := mem_ready.1 hj
      have hnot : ∀ e ∈ oj.after, Region.binds md e = true → e.on ≠ i := fun e he hb heq => by
        have h1 := hall e he hb
        rw [heq, getD_both hun] at h1
        cases h1
      have h2 := qOp_put hoj (hfree j oj hoj hji hjun hnot) (fun cs b => hsel i oi cs b hi) (fun cs b => hsel j oj cs b hoj) hy (H.2 j (ready_mono hj hji)).2
      refine qOp_mono (fun a' h3 => ih (done.setIfInBounds j true) a' (inv.set hj hjn) (fun k ok hk hki hku hno => hfree k ok hk hki ?_ hno) (ready_mono hr (Ne.symm hji)) h3.1 ?_) h2
      · by_cases hjk : j = k
        · subst hjk; exact hjun
        · rw [getD_set_ne true hjk] at hku; exact hku
      · rw [Array.setIfInBounds_comm _ _ hji]
        exact h3.2

theorem headQ_lex {n : Nat} {K : Act → Prop} (hsel : Region.noSelect ops = true) (hs : Region.sinkB md ops n = true) (hc : chainC md ops n = true) (hn : n < ops.size)
    (hB : ∀ k, k < n → (Region.ready md ops (fdone k ops.size)).contains k = true ∧ Region.free md ops (fdone k ops.size) k = true) :
    ∀ (l : List Oper) (k : Nat) (a : Act), (∀ j, j < l.length → l[j]? = ops[k + j]?) → k + l.length = n → HeadInv md ops n (fdone k ops.size) →
    wpQuiet P ops C K l a → headQ P md ops C n (fun done' a' => done' = fdone n ops.size ∧ K a') l.length (fdone k ops.size) a
  | [], k, a, _, hk, _, h => by
    have : k = n := by simpa using hk
    subst this
    exact ⟨rfl, h⟩
  | o :: l, k, a, hl, hk, inv, h => by
    have h0 : ops[k]? = some o := by simpa using (hl 0 (by simp)).symm
    have hkn : k < n := by simp only [List.length_cons] at hk; omega
    obtain ⟨hr, hf⟩ := hB k hkn
    have hr' : k ∈ Region.ready md ops (fdone k ops.size) := by simpa using hr
    have hst : qOp P ops C k (wpQuiet P ops C K l) a := by unfold qOp; simp only [h0]; exact h
    obtain ⟨v, hy, hK⟩ := yieldsIn_of_qOp h0 hst
    have inv' := inv.set hr' hkn
    rw [fdone_next (by omega)] at inv'
    refine headQ_first h0 (Region.noSelect_spec hsel) hs hc hn hkn (fun done' a' hL j hj => ?_) l.length _ a inv (Region.free_spec h0 hf) hr' hy ?_
    · rw [hL.1] at hj; exact fdone_out (mem_ready.1 hj).1
    · rw [fdone_next (by omega)]
      exact headQ_lex hsel hs hc hn hB l (k + 1) _ (fun j hj => by have := hl (j + 1) (by simp; omega); simpa [Nat.add_assoc, Nat.add_comm 1 j] using this) (by simp only [List.length_cons] at hk; omega) inv' hK

/-- what only hands values on -/
def wless : Op → Bool
  | .move _ => true
  | .assign _ => true
  | .extract _ _ => true
  | _ => false
theorem wless_run {o : Oper} {a : Act} {w : World} {K : Act → World → Prop} {Q : Exit → Act → World → Prop} (hk : wless o.op = true) (h : o.wp P a w K Q ∨ (o.asks P a w ∧ LetsOut Q)) :
    ∃ v, (∀ w, (execOp a.eval o).run P w = .ok (.value v) w) ∧ K (a.put o.dst v) w := by
  have key : ∀ v, execOp a.eval o = pure (.value v) → ∃ v, (∀ w, (execOp a.eval o).run P w = .ok (.value v) w) ∧ K (a.put o.dst v) w := by
    intro v hv
    rcases h with h | ⟨h, _⟩
    · refine ⟨v, fun w => by rw [hv]; rfl, ?_⟩
      unfold Oper.wp at h
      rw [hv] at h
      exact h
    · exfalso
      have h1 := h.1
      rw [hv] at h1
      have e : (Sem.runT P (pure (Next.value v)) w #[]).2 = #[] := rfl
      rw [e] at h1
      simp at h1
  cases hop : o.op <;> simp only [hop, wless, Bool.false_eq_true] at hk
  case move x => exact key (a.eval x) (by simp [execOp, hop])
  case assign x => exact key (a.eval x) (by simp [execOp, hop])
  case extract x ix =>
    have bad : ∀ st, execOp a.eval o = ((stuck st : Sem Value) >>= fun v => pure (Next.value v)) → False := by
      intro st hst
      rcases h with h | ⟨h, _⟩
      · unfold Oper.wp at h
        rw [hst] at h
        exact h
      · have h1 := h.1
        rw [hst] at h1
        have e : (Sem.runT P ((stuck st : Sem Value) >>= fun v => pure (Next.value v)) w #[]).2 = #[] := rfl
        rw [e] at h1
        simp at h1
    cases hx : a.eval x
    case tuple vs =>
      cases hv : vs[ix]? with
      | some v => exact key v (by simp [execOp, hop, Instr.extract, hx, hv])
      | none => exact (bad "Extract: no such component" (by simp only [execOp, hop, Instr.extract, hx, hv])).elim
    all_goals exact (bad "Extract: tuple expected" (by simp only [execOp, hop, Instr.extract, hx])).elim

/-- what is left comes up one by one, but for what only hands values on -/
def restB (md : Region.Mode) (ops : Array Oper) (n : Nat) : Bool :=
  Region.noSelect ops && (List.range (ops.size - n)).all (fun j => decide (Region.ready md ops (fdone (n + j) ops.size) = [n + j]) || ((Region.ready md ops (fdone (n + j) ops.size)).contains (n + j) && Region.free md ops (fdone (n + j) ops.size) (n + j) && ((ops[n + j]?).map fun o => wless o.op && o.guard.isNone).getD false)) && (Region.ready md ops (fdone ops.size ops.size)).isEmpty
theorem wpAny_rest {Q : Exit → Act → World → Prop} (hsel : Region.noSelect ops = true) (hQ : ∀ c a d v w, Q (.panic c) (Act.put a d v) w → Q (.panic c) a w) (hend : Region.ready md ops (fdone ops.size ops.size) = []) :
    ∀ (l : List Oper) (k : Nat) (a : Act) (w : World), (∀ j, l[j]? = ops[k + j]?) → k + l.length = ops.size →
    (∀ j, k ≤ j → j < ops.size → Region.ready md ops (fdone j ops.size) = [j] ∨ ((Region.ready md ops (fdone j ops.size)).contains j = true ∧ Region.free md ops (fdone j ops.size) j = true ∧ ∃ o, ops[j]? = some o ∧ wless o.op = true ∧ o.guard = none)) →
    wpList P ops Q l a w → wpAny P md ops Q l.length (fdone k ops.size) a w
  | [], k, a, w, _, hk, _, h => by
    have : k = ops.size := by simpa using hk
    subst this
    exact ⟨hend, h⟩
  | o :: l, k, a, w, hl, hk, hB, h => by
    have h0 : ops[k]? = some o := by simpa using (hl 0).symm
    have hks : k < ops.size := by simp only [List.length_cons] at hk; omega
    have hl' : ∀ j, l[j]? = ops[k + 1 + j]? := fun j => by have := hl (j + 1); simpa [Nat.add_assoc, Nat.add_comm 1 j] using this
    have hk' : k + 1 + l.length = ops.size := by simp only [List.length_cons] at hk; omega
    have ih := fun a w => wpAny_rest hsel hQ hend l (k + 1) a w hl' hk' (fun j h1 h2 => hB j (by omega) h2)
    rcases hB k (Nat.le_refl _) hks with hr | ⟨hr, hf, o', ho', hwl, hg⟩
    · refine ⟨fun h1 => (by rw [hr] at h1; cases h1), fun i hi => ?_⟩
      rw [hr] at hi
      obtain rfl : i = k := by simpa using hi
      rw [fdone_next hks]
      have hw : wpOp P ops Q i (wpList P ops Q l) a w := by unfold wpOp; simp only [h0]; exact h
      exact wpOp_mono (fun a' w' h' => ih a' w' h') hw
    · obtain rfl : o' = o := Option.some.inj (ho'.symm.trans h0)
      have hwt : Region.wanted o' (yielded ops a.tmps) = true := by unfold Region.wanted; rw [hg]
      unfold wpList at h
      rw [if_pos hwt] at h
      obtain ⟨v, hv, hK⟩ := wless_run hwl h
      refine wpAny_take h0 hsel hf hr (fun c a w => hQ c a _ v w) (Or.inl ⟨hwt, hv⟩) ?_
      rw [fdone_next hks]
      exact ih _ _ hK

theorem wpQuiet_mono {K K' : Act → Prop} (h : ∀ a, K a → K' a) : ∀ (l : List Oper) (a : Act), wpQuiet P ops C K l a → wpQuiet P ops C K' l a
  | [], a, hh => h a hh
  | o :: l, a, hh => by
    unfold wpQuiet at *
    split
    · rename_i hw; rw [if_pos hw] at hh; exact Oper.quiet_mono (wpQuiet_mono h l) hh
    · rename_i hw; rw [if_neg hw] at hh; exact wpQuiet_mono h l _ hh
/-- the class: whatever has been made behind w -/
abbrev Bk (w : World) : World → Prop := fun W => Below w.heap.size w W
theorem bk_iff {w : World} (X : World → Prop) : (∀ w', (∃ t : Wd (Bk w), w' = t.w) → X w') = (∀ w', Below w.heap.size w w' → X w') :=
  propext ⟨fun h w' hb => h w' ⟨⟨w', hb⟩, rfl⟩, fun h w' ⟨t, e⟩ => h w' (by rw [e]; exact t.h)⟩
theorem bk_next {w : World} : ∀ v v' : World, Bk w v → Below v.heap.size v v' → Bk w v' := fun v v' h hb => h.trans (hb.mono h.size)

/-- **A region that draws its order: the first n, which read and call, walked once in the order of the text; what is left then may still come up in any order.** -/
theorem wp_head {id : Nat} {Q : Exit → Act → World → Prop} {a : Act} {w : World} {l : List Oper} (n : Nat) (hm : P.follows .mixedOrders = true) (hB : headB .any l.toArray n = true)
    (h : Nonempty (Wd (Bk w)) → (∀ (t : Wd (Bk w)) (b o : Nat), b < w.heap.size → t.w.cell? ⟨b, o, none⟩ = w.cell? ⟨b, o, none⟩) →
      wpQuiet P l.toArray (fun w' => ∃ t : Wd (Bk w), w' = t.w) (fun a' => ∀ w', Below w.heap.size w w' → wpAny P .any l.toArray Q (l.length - n) (fdone n l.length) a' w') (l.take n) a) : (Code.region id l.toArray true).wp P Q a w := by
  simp only [headB, Bool.and_eq_true, decide_eq_true_eq] at hB
  obtain ⟨⟨⟨⟨hsel, hn⟩, hs⟩, hc⟩, hlex⟩ := hB
  have hn' : n < l.length := by simpa using hn
  have htl : (l.take n).length = n := by simp; omega
  have h' := h ⟨⟨w, Below.refl _ _⟩⟩ fun t b o hb => t.h.cell (p := ⟨b, o, none⟩) hb
  simp only [← bk_iff] at h'
  have hsz : l.toArray.size = l.length := by simp
  have inv0 : HeadInv .any l.toArray n (fdone 0 l.toArray.size) := by
    rw [fdone_zero]
    exact ⟨by simp, fun j oj _ hl => (by rw [getD_replicate_false] at hl; cases hl), fun t _ ht => getD_in (by simpa using ht) (getD_replicate_false _ _)⟩
  have H := headQ_lex (md := .any) hsel hs hc hn (fun k hk => by
    have := List.all_eq_true.1 hlex k (List.mem_range.2 hk)
    simpa only [Bool.and_eq_true] using this) (l.take n) 0 a (fun j hj => by
    have hj' : j < n := by rw [htl] at hj; exact hj
    simp [hj']) (by simpa using htl) inv0 h'
  refine wp_region_any hm ?_
  have := headQ_any (Q := Q) (g := l.length - n) (fun done a' w' hw' hL => by
    rw [hL.1, hsz]
    exact hL.2 w' hw') _ _ _ w.drew ⟨⟨w.drew, (Below.refl _ _).drew⟩, rfl⟩ H
  rw [htl, show n + (l.length - n) = l.toArray.size by rw [hsz]; omega, fdone_zero] at this
  exact this
theorem wp_tail {id : Nat} {Q : Exit → Act → World → Prop} {a : Act} {w : World} {l : List Oper} (n : Nat) (hm : P.follows .mixedOrders = true) (hB : headB .any l.toArray n = true) (hR : restB .any l.toArray n = true) (hQ : ∀ c a d v w, Q (.panic c) (Act.put a d v) w → Q (.panic c) a w)
    (h : Nonempty (Wd (Bk w)) → (∀ (t : Wd (Bk w)) (b o : Nat), b < w.heap.size → t.w.cell? ⟨b, o, none⟩ = w.cell? ⟨b, o, none⟩) →
      wpQuiet P l.toArray (fun w' => ∃ t : Wd (Bk w), w' = t.w) (fun a' => ∀ w', Below w.heap.size w w' → wpList P l.toArray Q (l.drop n) a' w') (l.take n) a) : (Code.region id l.toArray true).wp P Q a w := by
  refine wp_head n hm hB fun h1 h2 => ?_
  have hsz : l.toArray.size = l.length := by simp
  have hn : n < l.length := by
    simp only [headB, Bool.and_eq_true, decide_eq_true_eq] at hB
    have := hB.1.1.1.2; rwa [hsz] at this
  simp only [restB, Bool.and_eq_true, List.isEmpty_iff] at hR
  obtain ⟨⟨hsel, hall⟩, hend⟩ := hR
  refine wpQuiet_mono (fun a' h3 w' hw' => ?_) (l.take n) a (h h1 h2)
  have := wpAny_rest (P := P) (md := .any) (Q := Q) hsel hQ hend (l.drop n) n a' w' (fun j => by simp [List.getElem?_drop]) (by simp; omega) (fun j hj1 hj2 => by
    have h5 := List.all_eq_true.1 hall (j - n) (List.mem_range.2 (by omega))
    rw [show n + (j - n) = j by omega] at h5
    simp only [Bool.or_eq_true, Bool.and_eq_true, decide_eq_true_eq] at h5
    rcases h5 with h5 | ⟨⟨h5, h6⟩, h7⟩
    · exact Or.inl h5
    · refine Or.inr ⟨h5, h6, ?_⟩
      cases ho : l.toArray[j]? with
      | none => rw [ho] at h7; cases h7
      | some o =>
        rw [ho] at h7
        simp only [Option.map_some, Option.getD_some, Bool.and_eq_true, Option.isNone_iff_eq_none] at h7
        exact ⟨o, rfl, h7.1, h7.2⟩) (h3 w' hw')
  rw [hsz] at this
  simpa using this
end
end
section
section
variable {P : Program} {ops : Array Oper} {md : Region.Mode} {C : World → Prop} {ph : Option Nat → World → Prop}

/-- one value, in every world of every class -/
def YieldsAll (P : Program) (ops : Array Oper) (ph : Option Nat → World → Prop) (o : Oper) (v : Value) (a : Act) : Prop :=
  (Region.wanted o (yielded ops a.tmps) = true ∧ ∀ al w, ph al w → o.quietAt P a (ph al) w v) ∨ (Region.wanted o (yielded ops a.tmps) = false ∧ v = undef)
theorem YieldsAll.of_same {o : Oper} {v : Value} {a a' : Act} (hy : YieldsAll P ops ph o v a) (he : execOp a'.eval o = execOp a.eval o) (hw : Region.wanted o (yielded ops a'.tmps) = Region.wanted o (yielded ops a.tmps)) : YieldsAll P ops ph o v a' := by
  unfold YieldsAll Oper.quietAt at *
  rw [he, hw]
  exact hy
theorem YieldsAll.yin {o : Oper} {v : Value} {a : Act} (hy : YieldsAll P ops ph o v a) (al : Option Nat) : YieldsIn P ops (ph al) o v a := by
  rcases hy with ⟨h1, h2⟩ | ⟨h1, h2⟩
  · exact Or.inl ⟨h1, fun w hw => h2 al w hw⟩
  · exact Or.inr ⟨h1, h2⟩
def lexAll (P : Program) (ops : Array Oper) (ph : Option Nat → World → Prop) (K : Act → Prop) : List Oper → Act → Prop
  | [], a => K a
  | o :: l, a => ∃ v, YieldsAll P ops ph o v a ∧ lexAll P ops ph K l (a.put o.dst v)

theorem put_get_ne {b : Act} {x : Option Tmp} {v : Value} {d : Nat} (h : x ≠ some d) : (b.put x v).tmps[d]? = b.tmps[d]? := by
  cases x with
  | none => rfl
  | some t =>
    have : t ≠ d := fun e => h (by rw [e])
    simp [Act.put, Array.getElem?_setIfInBounds_ne this]
theorem quiet_slot {a' : Act} {d : Nat} : ∀ (l : List Oper) (b : Act), (∀ o ∈ l, o.dst ≠ some d) → wpQuiet P ops C (fun a => a = a') l b → a'.tmps[d]? = b.tmps[d]?
  | [], b, _, h => by
    have h' : b = a' := h
    rw [h']
  | o :: l, b, hd, h => by
    unfold wpQuiet at h
    split at h
    · obtain ⟨v, _, h2⟩ := h
      rw [quiet_slot l _ (fun o' ho' => hd o' (List.mem_cons_of_mem _ ho')) h2, put_get_ne (hd o List.mem_cons_self)]
    · rw [quiet_slot l _ (fun o' ho' => hd o' (List.mem_cons_of_mem _ ho')) h, put_get_ne (hd o List.mem_cons_self)]
/-- each writes a slot of its own -/
def dstsB (m : Nat) : List Oper → Bool
  | [] => true
  | o :: l => (match o.dst with
    | some d => decide (d < m) && l.all (fun o' => o'.dst != some d)
    | none => false) && dstsB m l
theorem lexAll_of {a' : Act} (h0 : ∃ w, ph none w) : ∀ (l : List Oper) (a : Act), dstsB a.tmps.size l = true → (∀ al, (∃ w, ph al w) → wpQuiet P ops (ph al) (fun b => b = a') l a) → lexAll P ops ph (fun b => b = a') l a
  | [], a, _, h => h none h0
  | o :: l, a, hd, h => by
    unfold dstsB at hd
    cases ho : o.dst with
    | none => rw [ho] at hd; simp at hd
    | some d =>
      rw [ho] at hd
      simp only [Bool.and_eq_true, decide_eq_true_eq, List.all_eq_true, bne_iff_ne] at hd
      obtain ⟨⟨hlt, hne⟩, hds⟩ := hd
      have hsz : ∀ v, dstsB (a.put (some d) v).tmps.size l = true := fun v => by simpa [Act.put] using hds
      by_cases hw : Region.wanted o (yielded ops a.tmps) = true
      · have hv : ∀ al, (∃ w, ph al w) → ∃ v, (∀ w, ph al w → o.quietAt P a (ph al) w v) ∧ wpQuiet P ops (ph al) (fun b => b = a') l (a.put (some d) v) := fun al hal => by
          have h1 := h al hal
          unfold wpQuiet at h1
          rw [if_pos hw] at h1
          unfold Oper.quiet at h1
          rw [ho] at h1
          exact h1
        have key : ∀ al v, wpQuiet P ops (ph al) (fun b => b = a') l (a.put (some d) v) → a'.tmps[d]? = some v := fun al v hr => by
          rw [quiet_slot l _ (fun o' ho' => hne o' ho') hr]
          simp [Act.put, hlt]
        obtain ⟨v0, q0, r0⟩ := hv none h0
        have hk := key none v0 r0
        have same : ∀ al, (∃ w, ph al w) → (∀ w, ph al w → o.quietAt P a (ph al) w v0) ∧ wpQuiet P ops (ph al) (fun b => b = a') l (a.put (some d) v0) := fun al hal => by
          obtain ⟨v1, q1, r1⟩ := hv al hal
          have : v1 = v0 := Option.some.inj ((key al v1 r1).symm.trans hk)
          subst this
          exact ⟨q1, r1⟩
        refine ⟨v0, Or.inl ⟨hw, fun al w hw' => (same al ⟨w, hw'⟩).1 w hw'⟩, ?_⟩
        rw [ho]
        exact lexAll_of h0 l _ (hsz v0) (fun al hal => (same al hal).2)
      · refine ⟨undef, Or.inr ⟨by simpa using hw, rfl⟩, ?_⟩
        rw [ho]
        refine lexAll_of h0 l _ (hsz undef) (fun al hal => ?_)
        have h1 := h al hal
        unfold wpQuiet at h1
        rw [if_neg hw, ho] at h1
        exact h1

/-- every one behind n, but for ia, waits for one between n and itself that is not ia -/
def chainA (md : Region.Mode) (ops : Array Oper) (n ia : Nat) : Bool :=
  (List.range ops.size).all fun t => decide (t ≤ n) || t == ia || (List.range t).any fun s => decide (n ≤ s) && s != ia && Region.waitsFor md ops t s
def headA (md : Region.Mode) (ops : Array Oper) (n ia : Nat) : Bool :=
  Region.noSelect ops && decide (n < ia) && decide (ia < ops.size) && Region.sinkB md ops n && chainA md ops n ia && !Region.waitsFor md ops n ia && ((List.range n).all fun k => (Region.ready md ops (fdone k ops.size)).contains k && Region.free md ops (fdone k ops.size) k) &&
    (match ops[ia]? with
      | some oa => oa.guard.isNone && (List.range n).all fun j => (match ops[j]? with
        | some oj => oa.apart ops oj
        | none => false)
      | none => false)

/-- while one of the first n has not come up, none behind n has a turn but ia -/
theorem waits_A {n ia i : Nat} {done d2 : Array Bool} (hs : Region.sinkB md ops n = true) (hc : chainA md ops n ia = true) (hw : Region.waitsFor md ops n ia = false) (hn : n < ia) (hia : ia < ops.size) (inv : HeadInv md ops n done) (hd2 : d2 = done ∨ d2 = done.setIfInBounds ia true) (hi : i < n) (hun : done.getD i true = false) (t : Nat) (ht : n ≤ t) (hta : t ≠ ia) : t ∉ Region.ready md ops d2 := by
  intro hr
  have hback : ∀ j, j ≠ ia → d2.getD j false = done.getD j false := fun j hj => by
    rcases hd2 with rfl | rfl
    · rfl
    · rw [getD_set_ne false (fun h => hj h.symm)]
  by_cases htn : t = n
  · subst htn
    refine waits_sink hs (by omega) inv _ i rfl hi hun (mem_ready.2 ?_)
    obtain ⟨h1, o, ho, hall⟩ := mem_ready.1 hr
    refine ⟨inv.tail t (Nat.le_refl _) (by omega), o, ho, fun e he hb => ?_⟩
    by_cases hea : e.on = ia
    · exfalso
      unfold Region.waitsFor at hw
      rw [ho] at hw
      have := Array.any_eq_false.1 hw
      obtain ⟨k, hk, rfl⟩ := Array.getElem_of_mem he
      exact this k hk (by simp [hb, hea])
    · rw [← hback _ hea]; exact hall e he hb
  · obtain ⟨_, ot, hot, hall⟩ := mem_ready.1 hr
    have htlt : t < ops.size := (Array.getElem?_eq_some_iff.1 hot).1
    have h1 := List.all_eq_true.1 hc t (List.mem_range.2 htlt)
    simp only [Bool.or_eq_true, decide_eq_true_eq, beq_iff_eq] at h1
    rcases h1 with (h1 | h1) | h1
    · omega
    · exact hta h1
    · obtain ⟨s, hsm, hs2⟩ := List.any_eq_true.1 h1
      simp only [Bool.and_eq_true, decide_eq_true_eq, bne_iff_ne] at hs2
      obtain ⟨o', ho', e, he, hb, hon⟩ := Region.waitsFor_spec hs2.2
      obtain rfl : o' = ot := Option.some.inj (ho'.symm.trans hot)
      have hst := List.mem_range.1 hsm
      have h2 := hall e he hb
      rw [hon, hback _ hs2.1.2, getD_both (inv.tail s hs2.1.1 (by omega))] at h2
      cases h2

/-- the first n come up in any order, each of one value; ia is left aside -/
def headP (P : Program) (md : Region.Mode) (ops : Array Oper) (ph : Option Nat → World → Prop) (n ia : Nat) (L : Array Bool → Act → Prop) : Nat → Array Bool → Act → Prop
  | 0, done, a => L done a
  | f + 1, done, a => (∃ i ∈ Region.ready md ops done, i ≠ ia) ∧ ∀ i ∈ Region.ready md ops done, i ≠ ia → i < n ∧ ∃ oi v, ops[i]? = some oi ∧ YieldsAll P ops ph oi v a ∧ headP P md ops ph n ia L f (done.setIfInBounds i true) (a.put oi.dst v)

theorem headP_first {n ia i : Nat} {oi : Oper} {v : Value} {L : Array Bool → Act → Prop} (hi : ops[i]? = some oi) (hsel : ∀ (j : Nat) (o : Oper) cs b, ops[j]? = some o → o.op ≠ .select cs b)
    (hs : Region.sinkB md ops n = true) (hc : chainA md ops n ia = true) (hw : Region.waitsFor md ops n ia = false) (hn : n < ia) (hia : ia < ops.size) (hin : i < n) (hend : ∀ done a, L done a → ∀ j ∈ Region.ready md ops done, n ≤ j) :
    ∀ (f : Nat) (done : Array Bool) (a : Act), HeadInv md ops n done →
      (∀ j oj, ops[j]? = some oj → j ≠ i → done.getD j true = false → (∀ e ∈ oj.after, Region.binds md e = true → e.on ≠ i) → oi.apart ops oj = true) →
      i ∈ Region.ready md ops done → YieldsAll P ops ph oi v a → headP P md ops ph n ia L f (done.setIfInBounds i true) (a.put oi.dst v) → headP P md ops ph n ia L (f + 1) done a := by
  intro f
  induction f with
  | zero =>
    intro done a inv _ hr hy H
    refine ⟨⟨i, hr, by omega⟩, fun j hj hja => ?_⟩
    have hjn : j < n := Nat.lt_of_not_le fun h => waits_A hs hc hw hn hia inv (Or.inl rfl) hin (mem_ready.1 hr).1 j h hja hj
    refine ⟨hjn, ?_⟩
    by_cases hji : j = i
    · subst hji; exact ⟨oi, v, hi, hy, H⟩
    · have := hend _ _ H j (ready_mono hj hji)
      omega
  | succ f ih =>
    intro done a inv hfree hr hy H
    have hun := (mem_ready.1 hr).1
    refine ⟨⟨i, hr, by omega⟩, fun j hj hja => ?_⟩
    have hjn : j < n := Nat.lt_of_not_le fun h => waits_A hs hc hw hn hia inv (Or.inl rfl) hin hun j h hja hj
    refine ⟨hjn, ?_⟩
    by_cases hji : j = i
    · subst hji; exact ⟨oi, v, hi, hy, H⟩
    · obtain ⟨hjun, oj, hoj, hall⟩ := mem_ready.1 hj
      have hnot : ∀ e ∈ oj.after, Region.binds md e = true → e.on ≠ i := fun e he hb heq => by
        have h1 := hall e he hb
        rw [heq, getD_both hun] at h1
        cases h1
      obtain ⟨_, oj', u, hoj', hyj, Hj⟩ := H.2 j (ready_mono hj hji) hja
      obtain rfl : oj' = oj := Option.some.inj (hoj'.symm.trans hoj)
      obtain ⟨h1, h2, h3⟩ := Oper.apart_spec (hfree j oj' hoj hji hjun hnot)
      refine ⟨oj', u, hoj, hyj.of_same (execOp_put oj' (fun cs b => hsel j oj' cs b hoj) a oi.dst v h1).symm (wanted_put oj' a oi.dst v h1).symm, ?_⟩
      refine ih (done.setIfInBounds j true) (a.put oj'.dst u) (inv.set hj hjn) (fun k ok hk hki hku hno => hfree k ok hk hki ?_ hno) (ready_mono hr (Ne.symm hji)) (hy.of_same (execOp_put oi (fun cs b => hsel i oi cs b hi) a oj'.dst u h3) (wanted_put oi a oj'.dst u h3)) ?_
      · by_cases hjk : j = k
        · subst hjk; exact hjun
        · rw [getD_set_ne true hjk] at hku; exact hku
      · rw [Array.setIfInBounds_comm _ _ hji, ← Act.put_comm a v u h2]
        exact Hj

theorem headP_lex {n ia : Nat} {K : Act → Prop} (hsel : Region.noSelect ops = true) (hs : Region.sinkB md ops n = true) (hc : chainA md ops n ia = true) (hw : Region.waitsFor md ops n ia = false) (hn : n < ia) (hia : ia < ops.size)
    (hB : ∀ k, k < n → (Region.ready md ops (fdone k ops.size)).contains k = true ∧ Region.free md ops (fdone k ops.size) k = true) :
    ∀ (l : List Oper) (k : Nat) (a : Act), (∀ j, j < l.length → l[j]? = ops[k + j]?) → k + l.length = n → HeadInv md ops n (fdone k ops.size) →
    lexAll P ops ph K l a → headP P md ops ph n ia (fun done' a' => done' = fdone n ops.size ∧ K a') l.length (fdone k ops.size) a
  | [], k, a, _, hk, _, h => by
    have : k = n := by simpa using hk
    subst this
    exact ⟨rfl, h⟩
  | o :: l, k, a, hl, hk, inv, h => by
    have h0 : ops[k]? = some o := by simpa using (hl 0 (by simp)).symm
    have hkn : k < n := by simp only [List.length_cons] at hk; omega
    obtain ⟨hr, hf⟩ := hB k hkn
    have hr' : k ∈ Region.ready md ops (fdone k ops.size) := by simpa using hr
    obtain ⟨v, hy, hK⟩ := h
    have inv' := inv.set hr' hkn
    rw [fdone_next (by omega)] at inv'
    refine headP_first h0 (Region.noSelect_spec hsel) hs hc hw hn hia hkn (fun done' a' hL j hj => ?_) l.length _ a inv (Region.free_spec h0 hf) hr' hy ?_
    · rw [hL.1] at hj; exact fdone_out (mem_ready.1 hj).1
    · rw [fdone_next (by omega)]
      exact headP_lex hsel hs hc hw hn hia hB l (k + 1) _ (fun j hj => by have := hl (j + 1) (by simp; omega); simpa [Nat.add_assoc, Nat.add_comm 1 j] using this) (by simp only [List.length_cons] at hk; omega) inv' hK

/-- the block is made: it goes on with it -/
theorem headP_made {n ia g1 da g : Nat} {oa : Oper} {L : Array Bool → Act → Prop} {Q : Exit → Act → World → Prop} (hsel : ∀ (j : Nat) (o : Oper) cs b, ops[j]? = some o → o.op ≠ .select cs b)
    (hs : Region.sinkB md ops n = true) (hc : chainA md ops n ia = true) (hw : Region.waitsFor md ops n ia = false) (hn : n < ia) (hia : ia < ops.size) (hoa : ops[ia]? = some oa) (hda : oa.dst = some da)
    (hdep : ∀ j oj, j < n → ops[j]? = some oj → (∀ e ∈ oj.after, Region.binds md e = true → e.on ≠ ia) ∧ oa.apart ops oj = true)
    (hL : ∀ done a w, ph (some g) w → L done a → wpAny P md ops Q g1 (done.setIfInBounds ia true) (a.put (some da) (.pointer (some ⟨g, 0, none⟩))) w) :
    ∀ (f : Nat) (done : Array Bool) (a : Act) (w : World), HeadInv md ops n done → ph (some g) w → headP P md ops ph n ia L f done a → wpAny P md ops Q (f + g1) (done.setIfInBounds ia true) (a.put (some da) (.pointer (some ⟨g, 0, none⟩))) w
  | 0, done, a, w, _, hp, h => by rw [Nat.zero_add]; exact hL _ _ _ hp h
  | f + 1, done, a, w, inv, hp, h => by
    rw [show f + 1 + g1 = (f + g1) + 1 by omega]
    obtain ⟨⟨i0, hi0, hi0a⟩, hall⟩ := h
    have hi0n := (hall i0 hi0 hi0a).1
    have hi0u := (mem_ready.1 hi0).1
    refine ⟨fun h0 => ?_, fun i hi => ?_⟩
    · have := ready_mono hi0 hi0a
      rw [h0] at this; cases this
    · have hia' : i ≠ ia := fun e => by
        subst e
        have := (mem_ready.1 hi).1
        have hlt : i < done.size := by rw [inv.size]; exact hia
        simp [hlt] at this
      have hin : i < n := Nat.lt_of_not_le fun h => waits_A hs hc hw hn hia inv (Or.inr rfl) hi0n hi0u i h hia' hi
      obtain ⟨hu, oi, hoi, hdeps⟩ := mem_ready.1 hi
      have hr : i ∈ Region.ready md ops done := mem_ready.2 ⟨by rw [getD_set_ne true (fun h => hia' h.symm)] at hu; exact hu, oi, hoi, fun e he hb => by
        have := hdeps e he hb
        rw [getD_set_ne false (fun h => (hdep i oi hin hoi).1 e he hb h.symm)] at this
        exact this⟩
      obtain ⟨_, oi', v, hoi', hy, Hi⟩ := hall i hr hia'
      obtain rfl : oi' = oi := Option.some.inj (hoi'.symm.trans hoi)
      obtain ⟨h1, h2, h3⟩ := Oper.apart_spec (hdep i oi' hin hoi).2
      rw [hda] at h1 h2
      have hy' := (hy.of_same (execOp_put oi' (fun cs b => hsel i oi' cs b hoi) a (some da) (.pointer (some ⟨g, 0, none⟩)) h1) (wanted_put oi' a (some da) _ h1)).yin (some g)
      refine wpOp_of_qOp (C := ph (some g)) (K := fun b => b = (a.put (some da) (.pointer (some ⟨g, 0, none⟩))).put oi'.dst v) hp (fun a' w' hw' e => ?_) (hy'.qOp hoi rfl)
      rw [e, Act.put_comm a _ v h2, Array.setIfInBounds_comm _ _ (Ne.symm hia')]
      exact headP_made hsel hs hc hw hn hia hoa hda hdep hL f _ _ w' (inv.set hr hin) hw' Hi
theorem headP_any {n ia g1 da : Nat} {oa : Oper} {L : Array Bool → Act → Prop} {Q : Exit → Act → World → Prop} (hsel : ∀ (j : Nat) (o : Oper) cs b, ops[j]? = some o → o.op ≠ .select cs b)
    (hs : Region.sinkB md ops n = true) (hc : chainA md ops n ia = true) (hw : Region.waitsFor md ops n ia = false) (hn : n < ia) (hia : ia < ops.size) (hoa : ops[ia]? = some oa) (hda : oa.dst = some da) (hga : oa.guard = none)
    (hdep : ∀ j oj, j < n → ops[j]? = some oj → (∀ e ∈ oj.after, Region.binds md e = true → e.on ≠ ia) ∧ oa.apart ops oj = true)
    (hrun : ∀ (a : Act) (w : World), ph none w → ∃ g w', (execOp a.eval oa).run P w = .ok (.value (.pointer (some ⟨g, 0, none⟩))) w' ∧ ph (some g) w')
    (hL0 : ∀ done a w, ph none w → L done a → wpAny P md ops Q (g1 + 1) done a w)
    (hL1 : ∀ g done a w, ph (some g) w → L done a → wpAny P md ops Q g1 (done.setIfInBounds ia true) (a.put (some da) (.pointer (some ⟨g, 0, none⟩))) w) :
    ∀ (f : Nat) (done : Array Bool) (a : Act) (w : World), HeadInv md ops n done → ph none w → headP P md ops ph n ia L f done a → wpAny P md ops Q (f + (g1 + 1)) done a w
  | 0, done, a, w, _, hp, h => by rw [Nat.zero_add]; exact hL0 _ _ _ hp h
  | f + 1, done, a, w, inv, hp, h => by
    have hsave := h
    rw [show f + 1 + (g1 + 1) = (f + (g1 + 1)) + 1 by omega]
    obtain ⟨⟨i0, hi0, hi0a⟩, hall⟩ := h
    refine ⟨fun h0 => (by rw [h0] at hi0; cases hi0), fun i hi => ?_⟩
    by_cases hia' : i = ia
    · subst hia'
      obtain ⟨g, w', hr, hp'⟩ := hrun a w hp
      unfold wpOp
      simp only [hoa]
      rw [if_pos (by unfold Region.wanted; rw [hga])]
      refine Or.inl ?_
      unfold Oper.wp
      rw [hr, Oper.upon_value, hda, show f + (g1 + 1) = f + 1 + g1 by omega]
      exact headP_made hsel hs hc hw hn hia hoa hda hdep (hL1 g) (f + 1) done a w' inv hp' hsave
    · obtain ⟨hin, oi, v, hoi, hy, Hi⟩ := hall i hi hia'
      refine wpOp_of_qOp (C := ph none) (K := fun b => b = a.put oi.dst v) hp (fun a' w' hw' e => ?_) ((hy.yin none).qOp hoi rfl)
      rw [e]
      exact headP_any hsel hs hc hw hn hia hoa hda hga hdep hrun hL0 hL1 f _ _ w' (inv.set hi hin) hw' Hi

/-- what is left, in this order, but for what only hands values on -/
def idxB (md : Region.Mode) (ops : Array Oper) : List Nat → Array Bool → Bool
  | [], done => (Region.ready md ops done).isEmpty
  | k :: ks, done => (decide (Region.ready md ops done = [k]) || ((Region.ready md ops done).contains k && Region.free md ops done k && ((ops[k]?).map fun o => wless o.op && o.guard.isNone).getD false)) && idxB md ops ks (done.setIfInBounds k true)
theorem wpAny_idx {Q : Exit → Act → World → Prop} (hsel : Region.noSelect ops = true) (hQ : ∀ c a d v w, Q (.panic c) (Act.put a d v) w → Q (.panic c) a w) :
    ∀ (ks : List Nat) (l : List Oper) (done : Array Bool) (a : Act) (w : World), ks.map (fun k => ops[k]?) = l.map some → idxB md ops ks done = true → wpList P ops Q l a w → wpAny P md ops Q ks.length done a w
  | [], l, done, a, w, hl, hB, h => by
    have : l = [] := by simpa using hl.symm
    subst this
    exact ⟨by simpa [idxB] using hB, h⟩
  | k :: ks, [], done, a, w, hl, hB, h => by simp at hl
  | k :: ks, o :: l, done, a, w, hl, hB, h => by
    simp only [List.map_cons, List.cons.injEq] at hl
    obtain ⟨h0, hl'⟩ := hl
    simp only [idxB, Bool.and_eq_true, Bool.or_eq_true, decide_eq_true_eq] at hB
    obtain ⟨hB, hB'⟩ := hB
    have ih := fun a w => wpAny_idx hsel hQ ks l (done.setIfInBounds k true) a w hl' hB'
    rcases hB with hr | ⟨⟨hr, hf⟩, hwl⟩
    · refine ⟨fun h1 => (by rw [hr] at h1; cases h1), fun i hi => ?_⟩
      rw [hr] at hi
      obtain rfl : i = k := by simpa using hi
      have hw : wpOp P ops Q i (wpList P ops Q l) a w := by unfold wpOp; simp only [h0]; exact h
      exact wpOp_mono (fun a' w' h' => ih a' w' h') hw
    · rw [h0] at hwl
      simp only [Option.map_some, Option.getD_some, Bool.and_eq_true, Option.isNone_iff_eq_none] at hwl
      have hwt : Region.wanted o (yielded ops a.tmps) = true := by unfold Region.wanted; rw [hwl.2]
      unfold wpList at h
      rw [if_pos hwt] at h
      obtain ⟨v, hv, hK⟩ := wless_run hwl.1 h
      exact wpAny_take h0 hsel hf hr (fun c a w => hQ c a _ v w) (Or.inl ⟨hwt, hv⟩) (ih _ _ hK)

/-- what stands behind w; and a block g of these cells, made behind w -/
def Al (w : World) (cs : Array Value) : Option Nat → World → Prop
  | none => fun W => Below w.heap.size w W
  | some g => fun W => Below w.heap.size w W ∧ w.heap.size ≤ g ∧ g < W.heap.size ∧ (∀ i, W.cell? ⟨g, i, none⟩ = cs[i]?) ∧ ∀ i, W.frozen? ⟨g, i, none⟩ = false
theorem al_below {w : World} {cs : Array Value} {al : Option Nat} {W : World} (h : Al w cs al W) : Below w.heap.size w W := by
  cases al with
  | none => exact h
  | some g => exact h.1
theorem al_next {w : World} {cs : Array Value} {al : Option Nat} : ∀ v v' : World, Al w cs al v → Below v.heap.size v v' → Al w cs al v' := by
  intro v v' h hb
  cases al with
  | none => exact Below.trans h (hb.mono (Below.size h))
  | some g =>
    obtain ⟨h1, h2, h3, h4, h5⟩ := h
    exact ⟨h1.trans (hb.mono h1.size), h2, Nat.lt_of_lt_of_le h3 hb.size, fun i => (hb.cell (p := ⟨g, i, none⟩) h3).trans (h4 i), fun i => (hb.frozen (p := ⟨g, i, none⟩) h3).trans (h5 i)⟩
theorem wp_made {id : Nat} {Q : Exit → Act → World → Prop} {a : Act} {w : World} {l : List Oper} (n ia da : Nat) (cs : Array Value) (hm : P.follows .mixedOrders = true) (hB : headA .any l.toArray n ia = true) (hD : dstsB a.tmps.size (l.take n) = true)
    (hda : (l[ia]?).bind (·.dst) = some da)
    (hrun : ∀ oa, l[ia]? = some oa → ∀ (a : Act) (w : World), ∃ t, (execOp a.eval oa).run P w = .ok (.value (.pointer (some ⟨w.heap.size, 0, none⟩))) (w.alloc (.cells cs t)))
    (hk0 : idxB .any l.toArray ((List.range l.length).drop n) (fdone n l.length) = true) (hk1 : idxB .any l.toArray (((List.range l.length).drop n).eraseIdx (ia - n)) ((fdone n l.length).setIfInBounds ia true) = true)
    (hl0 : ((List.range l.length).drop n).map (fun k => l.toArray[k]?) = (l.drop n).map some) (hl1 : (((List.range l.length).drop n).eraseIdx (ia - n)).map (fun k => l.toArray[k]?) = ((l.drop n).eraseIdx (ia - n)).map some)
    (hQ : ∀ c a d v w, Q (.panic c) (Act.put a d v) w → Q (.panic c) a w)
    (h : ∃ a', (∀ al, Nonempty (Wd (Al w cs al)) → (∀ (t : Wd (Al w cs al)) (b o : Nat), b < w.heap.size → t.w.cell? ⟨b, o, none⟩ = w.cell? ⟨b, o, none⟩) →
        wpQuiet P l.toArray (fun w' => ∃ t : Wd (Al w cs al), w' = t.w) (fun b => b = a') (l.take n) a) ∧
      (∀ w', Below w.heap.size w w' → wpList P l.toArray Q (l.drop n) a' w') ∧
      ∀ g w', Below w.heap.size w w' → w.heap.size ≤ g → g < w'.heap.size → (∀ i, w'.cell? ⟨g, i, none⟩ = cs[i]?) → (∀ i, w'.frozen? ⟨g, i, none⟩ = false) → wpList P l.toArray Q ((l.drop n).eraseIdx (ia - n)) (a'.put (some da) (.pointer (some ⟨g, 0, none⟩))) w') :
    (Code.region id l.toArray true).wp P Q a w := by
  simp only [headA, Bool.and_eq_true, decide_eq_true_eq, Bool.not_eq_true'] at hB
  obtain ⟨⟨⟨⟨⟨⟨⟨hsel, hn⟩, hia⟩, hs⟩, hc⟩, hw⟩, hlex⟩, hoa⟩ := hB
  have hsz : l.toArray.size = l.length := by simp
  have hia' : ia < l.length := by rw [← hsz]; exact hia
  have hla : l.toArray[ia]? = l[ia]? := by simp
  cases hoe : l[ia]? with
  | none => rw [hla, hoe] at hoa; cases hoa
  | some oa =>
    rw [hla, hoe] at hoa
    simp only [Bool.and_eq_true, Option.isNone_iff_eq_none] at hoa
    rw [hoe] at hda
    obtain ⟨a', h1, h2, h3⟩ := h
    have htl : (l.take n).length = n := by simp; omega
    have inv0 : HeadInv .any l.toArray n (fdone 0 l.toArray.size) := by
      rw [fdone_zero]
      exact ⟨by simp, fun j oj _ hl => (by rw [getD_replicate_false] at hl; cases hl), fun t _ ht => getD_in (by simpa using ht) (getD_replicate_false _ _)⟩
    have hready : ∀ k, k < n → (Region.ready .any l.toArray (fdone k l.toArray.size)).contains k = true ∧ Region.free .any l.toArray (fdone k l.toArray.size) k = true := fun k hk => by
      have := List.all_eq_true.1 hlex k (List.mem_range.2 hk)
      simpa only [Bool.and_eq_true] using this
    have hlexA : lexAll P l.toArray (fun al w' => ∃ t : Wd (Al w cs al), w' = t.w) (fun b => b = a') (l.take n) a :=
      lexAll_of (ph := fun al w' => ∃ t : Wd (Al w cs al), w' = t.w) ⟨w, ⟨w, Below.refl _ _⟩, rfl⟩ (l.take n) a hD fun al ⟨_, t, _⟩ => h1 al ⟨t⟩ fun t b o hb => (al_below t.h).cell (p := ⟨b, o, none⟩) hb
    have H := headP_lex (md := .any) hsel hs hc hw hn hia hready (l.take n) 0 a (fun j hj => by
      have hj' : j < n := by rw [htl] at hj; exact hj
      simp [hj']) (by simpa using htl) inv0 hlexA
    have hlen0 : ((List.range l.length).drop n).length = l.length - n - 1 + 1 := by simp; omega
    have hlen1 : (((List.range l.length).drop n).eraseIdx (ia - n)).length = l.length - n - 1 := by
      rw [List.length_eraseIdx]; simp; omega
    refine wp_region_any hm ?_
    have := headP_any (Q := Q) (g1 := l.length - n - 1) (Region.noSelect_spec hsel) hs hc hw hn hia (hla.trans hoe) hda hoa.1 (fun j oj hj hoj => by
        refine ⟨fun e he hb heq => ?_, ?_⟩
        · have hr : j ∈ Region.ready .any l.toArray (fdone j l.toArray.size) := by simpa using (hready j hj).1
          obtain ⟨_, o', ho', hall⟩ := mem_ready.1 hr
          obtain rfl : o' = oj := Option.some.inj (ho'.symm.trans hoj)
          have h5 := hall e he hb
          rw [heq] at h5
          have : (fdone j l.toArray.size).getD ia false = false := by
            simp [fdone, List.getElem?_append, show ¬ ia < j by omega, List.getElem?_replicate]
            split <;> rfl
          rw [this] at h5; cases h5
        · have := List.all_eq_true.1 hoa.2 j (List.mem_range.2 hj)
          rw [hoj] at this
          exact this)
      (fun b W hW => by
        obtain ⟨t, rfl⟩ := hW
        obtain ⟨ty, hr⟩ := hrun oa hoe b t.w
        refine ⟨_, _, hr, ⟨⟨_, ?_⟩, rfl⟩⟩
        have hb : Below w.heap.size w t.w := t.h
        exact ⟨hb.alloc hb.size _, hb.size, by simp, fun i => World.cell?_alloc_new _ _ _ _, fun i => by simp [go_sem]⟩)
      (fun done b W hW hL => by
        obtain ⟨t, rfl⟩ := hW
        rw [hL.1, hL.2, hsz]
        have := wpAny_idx (P := P) (md := .any) (Q := Q) hsel hQ ((List.range l.length).drop n) (l.drop n) (fdone n l.length) a' t.w hl0 hk0 (h2 t.w t.h)
        rw [hlen0] at this
        exact this)
      (fun g done b W hW hL => by
        obtain ⟨t, rfl⟩ := hW
        rw [hL.1, hL.2, hsz]
        obtain ⟨q1, q2, q3, q4, q5⟩ := t.h
        have := wpAny_idx (P := P) (md := .any) (Q := Q) hsel hQ (((List.range l.length).drop n).eraseIdx (ia - n)) ((l.drop n).eraseIdx (ia - n)) ((fdone n l.length).setIfInBounds ia true) _ t.w hl1 hk1 (h3 g t.w q1 q2 q3 q4 q5)
        rw [hlen1] at this
        exact this)
      _ _ _ w.drew inv0 ⟨⟨w.drew, (Below.refl _ _).drew⟩, rfl⟩ H
    rw [htl, show n + (l.length - n - 1 + 1) = l.toArray.size by rw [hsz]; omega, fdone_zero] at this
    exact this
end
end
/-- a text of these bytes -/
def B (l : List UInt8) : ByteArray := ⟨l.toArray⟩
theorem B_of (s : ByteArray) : B s.data.toList = s := by cases s; rfl
theorem B_size (l : List UInt8) : (B l).size = l.length := rfl
theorem B_get {l : List UInt8} {i : Nat} (h : i < (B l).size) : (B l)[i]'h = l[i]'(by rwa [B_size] at h) := by
  show (B l).data[i]'_ = _
  simp [B]
theorem B_ext (l : List UInt8) (a b : Nat) : (B l).extract a b = B ((l.take b).drop a) := by
  apply ByteArray.ext
  rw [ByteArray.data_extract]
  show l.toArray.extract a b = ((l.take b).drop a).toArray
  rw [List.extract_toArray, List.extract_eq_take_drop, List.drop_take]
theorem B_app (a b : List UInt8) : B a ++ B b = B (a ++ b) := by
  apply ByteArray.ext
  rw [ByteArray.data_append]
  show a.toArray ++ b.toArray = (a ++ b).toArray
  simp
/-- byte i -/
def by_ (l : List UInt8) (i : Nat) : Int := if h : i < l.length then ((l[i]'h).toNat : Int) else 0
theorem by_lt {l : List UInt8} {i : Nat} (h : i < (B l).size) : (((B l)[i]'h).toNat : Int) = by_ l i := by
  rw [B_get h]; unfold by_; rw [dif_pos (by rwa [B_size] at h)]
theorem by_bd (l : List UInt8) (i : Nat) : 0 ≤ by_ l i ∧ by_ l i ≤ 255 := by
  unfold by_; split
  · rename_i h; have := (l[i]'h).toNat_lt; omega
  · omega
theorem by_succ (c : UInt8) (r : List UInt8) (i : Nat) : by_ (c :: r) (i + 1) = by_ r i := by
  unfold by_
  by_cases h : i < r.length
  · rw [dif_pos h, dif_pos (by simpa using h)]; rfl
  · rw [dif_neg h, dif_neg (by simpa using h)]
theorem by_zero (c : UInt8) (r : List UInt8) : by_ (c :: r) 0 = (c.toNat : Int) := by simp [by_]
/-- a digit -/
def dg (c : UInt8) : Bool := decide (48 ≤ c.toNat ∧ c.toNat ≤ 57)
/-- the digits ahead -/
def dgs (l : List UInt8) : List UInt8 := l.takeWhile dg
def rst (l : List UInt8) : List UInt8 := l.dropWhile dg
theorem dgs_rst (l : List UInt8) : dgs l ++ rst l = l := List.takeWhile_append_dropWhile
theorem dgs_le (l : List UInt8) : (dgs l).length ≤ l.length := by
  have := congrArg List.length (dgs_rst l)
  rw [List.length_append] at this; omega
theorem take_dgs (l : List UInt8) : l.take (dgs l).length = dgs l := by
  conv => lhs; arg 2; rw [← dgs_rst l]
  simp
theorem drop_dgs (l : List UInt8) : l.drop (dgs l).length = rst l := by
  conv => lhs; arg 2; rw [← dgs_rst l]
  simp
theorem dgs_at : ∀ (l : List UInt8) (i : Nat), i < (dgs l).length → 48 ≤ by_ l i ∧ by_ l i ≤ 57
  | [], i, h => by simp [dgs] at h
  | c :: r, i, h => by
    unfold dgs at h
    rw [List.takeWhile_cons] at h
    split at h
    · rename_i hc
      unfold dg at hc
      simp at hc
      cases i with
      | zero => simp [by_]; omega
      | succ i =>
        have := dgs_at r i (by simpa [dgs] using h)
        rw [by_succ]
        exact this
    · simp at h
theorem dgs_stop : ∀ (l : List UInt8), (dgs l).length < l.length → ¬ (48 ≤ by_ l (dgs l).length ∧ by_ l (dgs l).length ≤ 57)
  | [], h => by simp [dgs] at h
  | c :: r, h => by
    unfold dgs at h ⊢
    rw [List.takeWhile_cons] at h ⊢
    split at h
    · rename_i hc
      rw [if_pos hc]
      have := dgs_stop r (by simpa [dgs] using h)
      rw [List.length_cons, by_succ]
      exact this
    · rename_i hc
      rw [if_neg hc]
      unfold dg at hc
      simp at hc
      simp [by_]
      intro h1
      omega
section
theorem gbcell {W w1 : World} (hb : Below W.heap.size W w1) : (∀ b o, b < W.heap.size → w1.cell? ⟨b, o, none⟩ = W.cell? ⟨b, o, none⟩) ∧ (∀ b o, b < W.heap.size → w1.frozen? ⟨b, o, none⟩ = W.frozen? ⟨b, o, none⟩) :=
  ⟨fun b o h => hb.cell (p := ⟨b, o, none⟩) h, fun b o h => hb.frozen (p := ⟨b, o, none⟩) h⟩
theorem gbelow_drewN {B : Nat} {a w : World} {m : Nat} (h : Below B a w) : Below B a (w.drewN m) := ⟨h.os, h.tape, h.output, h.size, h.block⟩
theorem gbnext {w0 W W' : World} (h : Below w0.heap.size w0 W) (hb : Below W.heap.size W W') : Below w0.heap.size w0 W' := h.trans (hb.mono h.size)
theorem glt_below {n g : Nat} {W W' : World} (hb : Below n W W') (h : g < W.heap.size) : g < W'.heap.size := Nat.lt_of_lt_of_le h hb.size
theorem gcell_set_map (W : World) (b i : Nat) (v : Value) : (W.setCell ⟨b, i, none⟩ v).cell? ⟨b, i, none⟩ = (W.cell? ⟨b, i, none⟩).map fun _ => v := by
  unfold World.cell? World.setCell
  simp only [Array.getElem?_modify, if_true]
  cases h : W.heap[b]? with
  | none => simp
  | some o =>
    cases o with
    | cells c e fr =>
      simp only [Option.map_some, Option.isSome_none, Bool.false_eq_true, if_false]
      by_cases hi : i < c.size
      · simp [hi]
      · simp [hi]
    | _ => simp
theorem B_toList (l : List UInt8) : (B l).toList = l := by rw [Lib.toList_data]; rfl

set_option maxHeartbeats 1000000 in
theorem ldig_any (l : List UInt8) (w : World) (hs : l.length < 4294967296) :
    Calls Tryz.prog 64 #[.string (B l)] w fun e w' => e = .returned (.tuple #[.string (B (dgs l)), .string (B (rst l))]) ∧ Below w.heap.size w w' := by
  have hsz := B_size l
  have E1 : (B l).extract 0 (dgs l).length = B (dgs l) := by rw [B_ext, List.drop_zero, take_dgs]
  have E2 : (B l).extract (dgs l).length (B l).size = B (rst l) := by rw [B_ext, B_size, List.take_length, drop_dgs]
  rw [hsz] at E2
  have hle := dgs_le l
  have HA : Hid (∀ i, i < (dgs l).length → 48 ≤ by_ l i ∧ by_ l i ≤ 57) := dgs_at l
  have HS : Hid ((dgs l).length < l.length → ¬ (48 ≤ by_ l (dgs l).length ∧ by_ l (dgs l).length ≤ 57)) := dgs_stop l
  generalize dgs l = d at *
  go_enter Tryz.func64, Tryz.ntmps64
  go_wp2
  go_loop [4] (fun i => ∃ k : Nat, k ≤ d.length ∧ i = .int .i64 k) (fun i => d.length - (intOf i).toNat)
  case atStart => exact ⟨0, Nat.zero_le _, rfl⟩
  case round =>
    obtain ⟨k, hk, rfl⟩ := hrel
    by_cases hlt : k < d.length
    · have hki : (k : Int) < (B l).size := by omega
      have hsb := by_lt (l := l) (i := k) (by omega)
      have hbd := HA.out k hlt
      go_wp2
      go_round
      case rel => exact ⟨k + 1, by omega, by go_num⟩
      case measure => simp [intOf]; omega
    · obtain rfl : k = d.length := by omega
      by_cases he : d.length < l.length
      · have hki : (d.length : Int) < (B l).size := by omega
        have hsb := by_lt (l := l) (i := d.length) (by omega)
        have hbd := by_bd l d.length
        have hst := HS.out he
        by_cases h1 : by_ l d.length < 48
        · go_wp2
          go_quiet (fail)
          go_wp2
          go_ret2
          exact ⟨rfl, gbelow_drewN (Below.refl _ _)⟩
        · have h2 : 57 < by_ l d.length := by omega
          go_wp2
          go_quiet (fail)
          go_wp2
          go_ret2
          exact ⟨rfl, gbelow_drewN (Below.refl _ _)⟩
      · have hki : (d.length : Int) = (B l).size := by omega
        have hki2 : (d.length : Int) = l.length := by omega
        have hdl : d.length = l.length := by omega
        have X1 : Hid (B d = (B l).extract 0 l.length) := by show _ = _; rw [← E1, hdl]
        have X2 : Hid (B (rst l) = ByteArray.empty) := by
          show _ = _
          rw [← E2, hdl, B_ext, List.take_length, List.drop_length]; rfl
        go_wp2
        go_quiet (fail)
        go_wp2
        go_ret2
        refine ⟨?_, gbelow_drewN (Below.refl _ _)⟩
        rw [X1.out, X2.out]
        rfl
/-- the sign ahead, and what stands behind it -/
def gsgB : List UInt8 → Bool
  | c :: _ => decide ((c.toNat : Int) = 45)
  | [] => false
def sgR : List UInt8 → List UInt8
  | c :: r => if (c.toNat : Int) = 45 ∨ (c.toNat : Int) = 43 then r else c :: r
  | [] => []
theorem B_tail (c : UInt8) (r : List UInt8) : (B (c :: r)).extract 1 (B (c :: r)).size = B r := by
  rw [B_ext, B_size, List.take_length]; rfl
set_option maxHeartbeats 1000000 in
theorem lsign_any (l : List UInt8) (w : World) (hs : l.length < 4294967296) :
    Calls Tryz.prog 36 #[.string (B l)] w fun e w' => e = .returned (.tuple #[.bool (gsgB l), .string (B (sgR l))]) ∧ Below w.heap.size w w' := by
  have htl := B_toList
  cases l with
  | nil =>
    have hsz : (B []).size = 0 := rfl
    go_enter Tryz.func36, Tryz.ntmps36
    go_wp2
    go_ret2
    exact ⟨rfl, Below.refl _ _⟩
  | cons c r =>
    have hsz := B_size (c :: r)
    have hln : (c :: r).length = r.length + 1 := rfl
    have hbt := B_tail c r
    have hsb := by_lt (l := c :: r) (i := 0) (by rw [hsz, hln]; omega)
    rw [by_zero] at hsb
    rw [hsz, hln] at hbt
    have hbd := c.toNat_lt
    rw [List.length_cons] at hs
    by_cases h1 : (c.toNat : Int) = 45
    · have HX : Hid (sgR (c :: r) = r ∧ gsgB (c :: r) = true) := ⟨if_pos (Or.inl h1), decide_eq_true h1⟩
      rw [HX.out.1, HX.out.2]
      go_enter Tryz.func36, Tryz.ntmps36
      go_wp2
      go_quiet (fail)
      go_wp2
      go_ret2
      exact ⟨rfl, gbelow_drewN (Below.refl _ _)⟩
    · by_cases h2 : (c.toNat : Int) = 43
      · have HX : Hid (sgR (c :: r) = r ∧ gsgB (c :: r) = false) := ⟨if_pos (Or.inr h2), decide_eq_false h1⟩
        rw [HX.out.1, HX.out.2]
        go_enter Tryz.func36, Tryz.ntmps36
        go_wp2
        go_quiet (fail)
        go_wp2
        go_ret2
        exact ⟨rfl, gbelow_drewN (Below.refl _ _)⟩
      · have HX : Hid (sgR (c :: r) = c :: r ∧ gsgB (c :: r) = false) := ⟨if_neg (by omega), decide_eq_false h1⟩
        rw [HX.out.1, HX.out.2]
        have g1 : ((c.toNat : Int) == 45) = false := beq_eq_false_iff_ne.2 h1
        have g2 : ((c.toNat : Int) == 43) = false := beq_eq_false_iff_ne.2 h2
        go_enter Tryz.func36, Tryz.ntmps36
        go_wp2
        go_ret2
        exact ⟨rfl, Below.refl _ _⟩
/-- without noughts ahead -/
def bar (l : List UInt8) : List UInt8 := l.dropWhile (· == 48)
theorem bar_cons (c : UInt8) (r : List UInt8) : bar (c :: r) = if (c.toNat : Int) = 48 then bar r else c :: r := by
  unfold bar
  rw [List.dropWhile_cons]
  by_cases h : c = 48
  · subst h; rfl
  · have : ¬ (c.toNat : Int) = 48 := fun e => h (UInt8.toNat_inj.1 (by simpa using (show c.toNat = 48 by omega)))
    rw [if_neg this, if_neg (by simpa using h)]
/-- are all digits? -/
def isd (l : List UInt8) : Bool := l.all dg && !l.isEmpty
theorem all_dg (l : List UInt8) : l.all dg = true ↔ ∀ i, i < l.length → 48 ≤ by_ l i ∧ by_ l i ≤ 57 := by
  rw [List.all_eq_true]
  constructor
  · intro h i hi
    have := h _ (List.getElem_mem hi)
    unfold dg at this; simp at this
    unfold by_; rw [dif_pos hi]; omega
  · intro h c hc
    obtain ⟨i, hi, rfl⟩ := List.getElem_of_mem hc
    have := h i hi
    unfold by_ at this; rw [dif_pos hi] at this
    unfold dg; simp; omega
end
section
/-- the number of digits -/
def nv (l : List UInt8) : Int := l.foldl (fun v c => 10 * v + ((c.toNat : Int) - 48)) 0
theorem nv_fold (l : List UInt8) : ∀ v : Int, l.foldl (fun v c => 10 * v + ((c.toNat : Int) - 48)) v = v * 10 ^ l.length + nv l := by
  induction l with
  | nil => intro v; simp [nv]
  | cons c r ih =>
    intro v
    unfold nv
    rw [List.foldl_cons, List.foldl_cons, ih, ih (10 * 0 + _), List.length_cons, Int.pow_succ]
    grind
theorem nv_app (a b : List UInt8) : nv (a ++ b) = nv a * 10 ^ b.length + nv b := by
  unfold nv
  rw [List.foldl_append, nv_fold b]
  rfl
theorem gnv_one (c : UInt8) : nv [c] = (c.toNat : Int) - 48 := by simp [nv]
theorem take_snoc {l : List UInt8} {k : Nat} (h : k < l.length) : l.take (k + 1) = l.take k ++ [l[k]] := List.take_succ_eq_append_getElem h
theorem nv_take {l : List UInt8} {k : Nat} (h : k < l.length) : nv (l.take (k + 1)) = 10 * nv (l.take k) + (by_ l k - 48) := by
  rw [take_snoc h, nv_app, gnv_one]
  unfold by_; rw [dif_pos h]
  simp; omega
theorem nv_nn {l : List UInt8} (h : l.all dg = true) : 0 ≤ nv l ∧ nv l < 10 ^ l.length := by
  have key : ∀ k, k ≤ l.length → 0 ≤ nv (l.take k) ∧ nv (l.take k) < 10 ^ k := by
    intro k
    induction k with
    | zero => intro _; simp [nv]
    | succ k ih =>
      intro hk
      have h1 := ih (by omega)
      have h2 := (all_dg l).1 h k (by omega)
      rw [nv_take (by omega), Int.pow_succ]
      omega
  have := key l.length (Nat.le_refl _)
  rwa [List.take_length] at this
theorem nv_take_nn {l : List UInt8} (h : l.all dg = true) (k : Nat) : 0 ≤ nv (l.take k) :=
  (nv_nn (l := l.take k) (List.all_eq_true.2 fun c hc => List.all_eq_true.1 h c (List.mem_of_mem_take hc))).1
/-- the number of digits, or two thousand millions -/
def vc (l : List UInt8) : Int := min (nv l) 2000000000
set_option maxHeartbeats 1000000 in
theorem value_any (l : List UInt8) (w : World) (hs : l.length < 4294967296) (hd : l.all dg = true) :
    Calls Tryz.prog 93 #[.string (B l)] w fun e w' => e = .returned (.int .i64 (vc l)) ∧ Below w.heap.size w w' := by
  have hsz := B_size l
  have HD : Hid (l.all dg = true) := hd
  have HA : Hid (∀ i, i < l.length → 48 ≤ by_ l i ∧ by_ l i ≤ 57) := (all_dg l).1 hd
  clear hd
  go_enter Tryz.func93, Tryz.ntmps93
  go_wp2
  go_loop [3, 4, 7] (fun v u4 i => ∃ (k : Nat) (x : Int), k ≤ l.length ∧ i = .int .i64 k ∧ v = .int .i64 x ∧ 0 ≤ x ∧ x ≤ 2000000000 ∧ Hid (x = vc (l.take k))) (fun _ _ i => l.length - (intOf i).toNat)
  case atStart => exact ⟨0, 0, Nat.zero_le _, rfl, rfl, by decide, by decide, rfl⟩
  case round =>
    obtain ⟨k, x, hk, rfl, rfl, hx0, hx1, hx⟩ := hrel
    by_cases hlt : k < l.length
    · have hki : (k : Int) < (B l).size := by omega
      have hki2 : (k : Int) < l.length := by omega
      have hsb := by_lt (l := l) (i := k) (by omega)
      have hbd := HA.out k hlt
      have HX : Hid (min (10 * x + (by_ l k - 48)) 2000000000 = vc (l.take (k + 1))) := by
        show _ = _
        have h0 := nv_take_nn HD.out k
        rw [hx.out]; unfold vc; rw [nv_take hlt]
        omega
      go_wp2
      go_round
      case rel => exact ⟨k + 1, min (10 * x + (by_ l k - 48)) 2000000000, by omega, by go_num, by go_num, by omega, by omega, HX.out⟩
      case measure => simp [intOf]; omega
    · obtain rfl : k = l.length := by omega
      rw [List.take_length] at hx
      go_wp2
      go_ret
      exact ⟨by rw [← hx.out]; rfl, Below.refl _ _⟩
end
section
theorem all_dgs (l : List UInt8) : (dgs l).all dg = true := List.all_takeWhile
theorem rst_nil {l : List UInt8} (h : rst l = []) : dgs l = l := by
  have := dgs_rst l; rw [h, List.append_nil] at this; exact this
theorem rst_of_all {l : List UInt8} (h : l.all dg = true) : rst l = [] ∧ dgs l = l := by
  have : dgs l = l := by
    induction l with
    | nil => rfl
    | cons c r ih =>
      rw [List.all_cons, Bool.and_eq_true] at h
      unfold dgs at ih ⊢
      rw [List.takeWhile_cons, if_pos h.1, ih h.2]
  refine ⟨?_, this⟩
  have e := dgs_rst l
  rw [this] at e
  simpa using e
theorem isd_iff (l : List UInt8) : isd l = true ↔ dgs l ≠ [] ∧ rst l = [] := by
  unfold isd
  simp only [Bool.and_eq_true, Bool.not_eq_true', List.isEmpty_eq_false_iff]
  constructor
  · rintro ⟨h1, h2⟩
    obtain ⟨a, b⟩ := rst_of_all h1
    exact ⟨by rw [b]; exact h2, a⟩
  · rintro ⟨h1, h2⟩
    have := rst_nil h2
    rw [this] at h1
    exact ⟨by rw [← this]; exact all_dgs l, h1⟩
theorem sgR_le (l : List UInt8) : (sgR l).length ≤ l.length := by
  cases l with
  | nil => exact Nat.le_refl _
  | cons c r =>
    show (if _ then r else c :: r).length ≤ _
    split <;> simp
theorem rst_le (l : List UInt8) : (rst l).length ≤ l.length := by
  have := congrArg List.length (dgs_rst l)
  rw [List.length_append] at this; omega
/-- is it an exponent's text, and which -/
def exB : List UInt8 → Bool
  | [] => true
  | c :: r => decide ((c.toNat : Int) = 101 ∨ (c.toNat : Int) = 69) && isd (sgR r)
def exS (r : List UInt8) : Int := if gsgB r then - vc (sgR r) else vc (sgR r)
def exI : List UInt8 → Int
  | [] => 0
  | c :: r => if exB (c :: r) then exS r else 0
theorem vc_bd {l : List UInt8} (h : l.all dg = true) : 0 ≤ vc l ∧ vc l ≤ 2000000000 := by
  have := (nv_nn h).1
  unfold vc; omega
set_option maxHeartbeats 1000000 in
theorem exponent_e (c : UInt8) (r : List UInt8) (w : World) (hs : r.length < 4294967290) (hc : (c.toNat : Int) = 101 ∨ (c.toNat : Int) = 69) :
    Calls Tryz.prog 66 #[.string (B (c :: r))] w fun e w' => e = .returned (.tuple #[.int .i64 (if isd (sgR r) then exS r else 0), .bool (isd (sgR r))]) ∧ Below w.heap.size w w' := by
  have htl := B_toList
  have hsz := B_size (c :: r)
  have hln : (c :: r).length = r.length + 1 := rfl
  have hbt := B_tail c r
  have hsb := by_lt (l := c :: r) (i := 0) (by rw [hsz, hln]; omega)
  rw [by_zero] at hsb
  rw [hsz, hln] at hbt
  have c16 := fun w => lsign_any r w (by omega)
  have hsl := sgR_le r
  have c27 := fun w => ldig_any (sgR r) w (by omega)
  have hdl := dgs_le (sgR r)
  have g1 : ((c.toNat : Int) != 101 && (c.toNat : Int) != 69) = false := by
    rcases hc with h | h <;> rw [h] <;> rfl
  have g0 := c.toNat_lt
  by_cases hi : isd (sgR r) = true
  · have hi2 := (isd_iff _).1 hi
    have c40 := fun w => value_any (dgs (sgR r)) w (by omega) (all_dgs _)
    have hvb := vc_bd (all_dgs (sgR r))
    have HE : Hid (exS r = if gsgB r then - vc (dgs (sgR r)) else vc (dgs (sgR r))) := by show _ = _; unfold exS; rw [rst_nil hi2.2]
    rw [if_pos hi, hi]
    rw [hi2.2] at c27
    have HN := hi2.1
    clear hi hi2
    generalize dgs (sgR r) = D at *
    cases D with
    | nil => exact absurd rfl HN
    | cons d ds =>
      clear HN
      generalize sgR r = X at *
      generalize exS r = E at *
      have hb : ∀ z : Bool, gsgB r = z → Calls Tryz.prog 66 #[.string (B (c :: r))] w fun e w' => e = .returned (.tuple #[.int .i64 E, .bool true]) ∧ Below w.heap.size w w' := by
        intro z hz
        rw [hz] at c16 HE
        clear hz
        cases z
        all_goals
          simp only [Bool.false_eq_true, if_true, if_false] at HE
          rcases hc with h | h
          all_goals
            rw [HE.out]; clear HE
            go_enter Tryz.func66, Tryz.ntmps66
            go_wp2_with (first
              | (go_at_call 36; refine (c16 _).mono ?_; rintro x w1 ⟨rfl, hb1⟩)
              | (go_at_call 64; refine (c27 _).mono ?_; rintro x w2 ⟨rfl, hb2⟩)
              | (go_at_call 93; refine (c40 _).mono ?_; rintro x w3 ⟨rfl, hb3⟩))
            go_ret2
            exact ⟨rfl, gbnext (gbnext hb1 hb2) hb3⟩
      exact hb _ rfl
  · have hi0 : isd (sgR r) = false := by simpa using hi
    rw [if_neg hi, hi0]
    have HN : ¬ (dgs (sgR r) ≠ [] ∧ rst (sgR r) = []) := fun h => hi ((isd_iff _).2 h)
    clear hi hi0
    generalize dgs (sgR r) = D at *
    generalize rst (sgR r) = R at *
    generalize sgR r = X at *
    have hb : ∀ (k : c.toNat = 101 ∨ c.toNat = 69), Calls Tryz.prog 66 #[.string (B (c :: r))] w fun e w' => e = .returned (.tuple #[.int .i64 0, .bool false]) ∧ Below w.heap.size w w' := by
      intro _
      cases D with
      | nil =>
        clear HN
        rcases hc with h | h
        all_goals
          go_enter Tryz.func66, Tryz.ntmps66
          go_wp2_with (first
            | (go_at_call 36; refine (c16 _).mono ?_; rintro x w1 ⟨rfl, hb1⟩)
            | (go_at_call 64; refine (c27 _).mono ?_; rintro x w2 ⟨rfl, hb2⟩))
          go_ret2
          exact ⟨rfl, gbnext hb1 hb2⟩
      | cons d ds =>
        cases R with
        | nil => exact absurd ⟨by simp, rfl⟩ HN
        | cons q qs =>
          clear HN
          rcases hc with h | h
          all_goals
            go_enter Tryz.func66, Tryz.ntmps66
            go_wp2_with (first
              | (go_at_call 36; refine (c16 _).mono ?_; rintro x w1 ⟨rfl, hb1⟩)
              | (go_at_call 64; refine (c27 _).mono ?_; rintro x w2 ⟨rfl, hb2⟩))
            go_ret2
            exact ⟨rfl, gbnext hb1 hb2⟩
    exact hb (by omega)
set_option maxHeartbeats 1000000 in
theorem exponent_any (l : List UInt8) (w : World) (hs : l.length < 4294967290) :
    Calls Tryz.prog 66 #[.string (B l)] w fun e w' => e = .returned (.tuple #[.int .i64 (exI l), .bool (exB l)]) ∧ Below w.heap.size w w' := by
  have htl := B_toList
  cases l with
  | nil =>
    unfold exI exB
    go_enter Tryz.func66, Tryz.ntmps66
    go_wp2
    go_ret2
    exact ⟨rfl, Below.refl _ _⟩
  | cons c r =>
    by_cases hc : (c.toNat : Int) = 101 ∨ (c.toNat : Int) = 69
    · have := exponent_e c r w (by rw [List.length_cons] at hs; omega) hc
      have e1 : exB (c :: r) = isd (sgR r) := by
        show (decide _ && _) = _
        rw [decide_eq_true hc]; rfl
      rw [show exI (c :: r) = if exB (c :: r) then exS r else 0 from rfl, e1]; exact this
    · have e1 : exB (c :: r) = false := by
        show (decide _ && _) = _
        rw [decide_eq_false hc]; rfl
      have e2 : exI (c :: r) = 0 := by rw [show exI (c :: r) = if exB (c :: r) then exS r else 0 from rfl, e1]; rfl
      rw [e1, e2]
      have hsz := B_size (c :: r)
      have hln : (c :: r).length = r.length + 1 := rfl
      have hsb := by_lt (l := c :: r) (i := 0) (by rw [hsz, hln]; omega)
      rw [by_zero] at hsb
      have h1 : ¬ (c.toNat : Int) = 101 := fun h => hc (Or.inl h)
      have h2 : ¬ (c.toNat : Int) = 69 := fun h => hc (Or.inr h)
      have g1 : ((c.toNat : Int) != 101) = true := by simpa using h1
      have g2 : ((c.toNat : Int) != 69) = true := by simpa using h2
      clear hc
      go_enter Tryz.func66, Tryz.ntmps66
      go_wp2
      go_ret2
      exact ⟨rfl, Below.refl _ _⟩
/-! the document's -/
theorem bar_all {l : List UInt8} (h : l.all dg = true) : (bar l).all dg = true := by
  induction l with
  | nil => rfl
  | cons c r ih =>
    rw [bar_cons]
    rw [List.all_cons, Bool.and_eq_true] at h
    split
    · exact ih h.2
    · rw [List.all_cons, h.1, h.2]; rfl
theorem bar_le (l : List UInt8) : (bar l).length ≤ l.length := by
  induction l with
  | nil => exact Nat.le_refl _
  | cons c r ih =>
    rw [bar_cons]
    split
    · rw [List.length_cons]; omega
    · exact Nat.le_refl _
theorem bar_head {l : List UInt8} {c : UInt8} {r : List UInt8} (h : bar l = c :: r) : (c.toNat : Int) ≠ 48 := by
  induction l with
  | nil => cases h
  | cons d s ih =>
    rw [bar_cons] at h
    split at h
    · exact ih h
    · rename_i hd; cases h; exact hd
end
end Go.Proofs.YtehgnckgmdkfmaaGreatDoor
