/-
  Great and small letters mean the same: the plain mathematics.
-/
import Derived.Test.YtgjdhfmpemionaaDoorGn
set_option linter.unusedVariables false
set_option linter.unusedSimpArgs false
set_option maxRecDepth 20000
namespace Go.Proofs.YtgjdhfmpemionaaDoor
open Go.RowKit

/-- a letter -/
def ltr (c : UInt8) : Prop := (65 ≤ c.toNat ∧ c.toNat ≤ 90) ∨ (97 ≤ c.toNat ∧ c.toNat ≤ 122)
/-- the same letter, great or small -/
def cas (c d : UInt8) : Prop := d = c ∨ (ltr c ∧ ltr d ∧ sm c = sm d)
inductive Cs : List UInt8 → List UInt8 → Prop
  | nil : Cs [] []
  | cons {c d : UInt8} {r s : List UInt8} : cas c d → Cs r s → Cs (c :: r) (d :: s)
theorem Cs.refl : ∀ l, Cs l l
  | [] => .nil
  | c :: r => .cons (Or.inl rfl) (Cs.refl r)
theorem Cs.len {l m : List UInt8} (h : Cs l m) : m.length = l.length := by
  induction h with
  | nil => rfl
  | cons _ _ ih => rw [List.length_cons, List.length_cons, ih]
theorem Cs.set {l m : List UInt8} (h : Cs l m) : ∀ (k : Nat) (d : UInt8) (hk : k < m.length), ltr (m[k]'hk) → ltr d → sm (m[k]'hk) = sm d → Cs l (m.set k d) := by
  induction h with
  | nil => intro k d hk; simp at hk
  | @cons c e r s hc _ ih =>
    intro k d hk h1 h2 h3
    cases k with
    | zero =>
      rw [List.set_cons_zero]
      refine .cons ?_ (by assumption)
      simp at h1 h3
      rcases hc with rfl | ⟨a, b, e'⟩
      · exact Or.inr ⟨h1, h2, h3⟩
      · exact Or.inr ⟨a, h2, e'.trans h3⟩
    | succ k =>
      rw [List.set_cons_succ]
      exact .cons hc (ih k d (by simpa using hk) (by simpa using h1) h2 (by simpa using h3))
/-- the letter, the other way -/
def flp (c : UInt8) : UInt8 := c ^^^ 32
theorem flp_ltr (c : UInt8) (h : ltr c) : ltr (flp c) ∧ sm c = sm (flp c) := by
  revert h
  have key : ∀ n : Fin 256, ltr (UInt8.ofNat n.val) → ltr (flp (UInt8.ofNat n.val)) ∧ sm (UInt8.ofNat n.val) = sm (flp (UInt8.ofNat n.val)) := by
    unfold ltr; decide
  have := key ⟨c.toNat, c.toNat_lt⟩
  simpa using this
theorem flp_val (c : UInt8) : bits .xor .u8 (c.toNat : Int) 32 = ((flp c).toNat : Int) := by
  have key : ∀ n : Fin 256, bits .xor .u8 ((UInt8.ofNat n.val).toNat : Int) 32 = ((flp (UInt8.ofNat n.val)).toNat : Int) := by decide
  have := key ⟨c.toNat, c.toNat_lt⟩
  simpa using this
theorem ltr_sm {c d : UInt8} (h1 : ltr c) (h2 : ltr d) (h : sm c = sm d) : ((c.toNat : Int) = 101 ∨ (c.toNat : Int) = 69) ↔ ((d.toNat : Int) = 101 ∨ (d.toNat : Int) = 69) := by
  have e := congrArg (fun x => ((UInt8.toNat x : Nat) : Int)) h
  simp only [sm_nat] at e
  unfold ltr at h1 h2
  split at e <;> split at e <;> omega
theorem cas_facts {c d : UInt8} (h : cas c d) : ((c.toNat : Int) = 45 ↔ (d.toNat : Int) = 45) ∧ ((c.toNat : Int) = 43 ↔ (d.toNat : Int) = 43) ∧ ((c.toNat : Int) = 46 ↔ (d.toNat : Int) = 46) ∧ dg c = dg d ∧ (dg c = true → d = c) ∧ (((c.toNat : Int) = 101 ∨ (c.toNat : Int) = 69) ↔ ((d.toNat : Int) = 101 ∨ (d.toNat : Int) = 69)) ∧ sm c = sm d := by
  rcases h with rfl | ⟨h1, h2, h3⟩
  · exact ⟨Iff.rfl, Iff.rfl, Iff.rfl, rfl, fun _ => rfl, Iff.rfl, rfl⟩
  · have hx := ltr_sm h1 h2 h3
    have e1 : dg c = false := by unfold dg; unfold ltr at h1; rw [decide_eq_false (by omega)]
    have e2 : dg d = false := by unfold dg; unfold ltr at h2; rw [decide_eq_false (by omega)]
    unfold ltr at h1 h2
    refine ⟨by omega, by omega, by omega, by rw [e1, e2], fun h => (by rw [e1] at h; cases h), hx, h3⟩
theorem Cs.sg {l m : List UInt8} (h : Cs l m) : sgB m = sgB l ∧ Cs (sgR l) (sgR m) := by
  cases h with
  | nil => exact ⟨rfl, .nil⟩
  | @cons c d r s hc hr =>
    obtain ⟨f1, f2, _⟩ := cas_facts hc
    refine ⟨?_, ?_⟩
    · show decide _ = decide _
      exact decide_eq_decide.2 f1.symm
    · show Cs (if _ then r else c :: r) (if _ then s else d :: s)
      by_cases h : (c.toNat : Int) = 45 ∨ (c.toNat : Int) = 43
      · rw [if_pos h, if_pos (by rw [← f1, ← f2]; exact h)]; exact hr
      · rw [if_neg h, if_neg (by rw [← f1, ← f2]; exact h)]; exact .cons hc hr
theorem Cs.dg {l m : List UInt8} (h : Cs l m) : dgs m = dgs l ∧ Cs (rst l) (rst m) := by
  induction h with
  | nil => exact ⟨rfl, .nil⟩
  | @cons c d r s hc hr ih =>
    obtain ⟨_, _, _, f4, f5, _⟩ := cas_facts hc
    unfold dgs rst at ih ⊢
    rw [List.takeWhile_cons, List.takeWhile_cons, List.dropWhile_cons, List.dropWhile_cons, ← f4]
    by_cases h : Go.Proofs.YtgjdhfmpemionaaDoor.dg c = true
    · rw [if_pos h, if_pos h, if_pos h, if_pos h, ih.1, f5 h]
      exact ⟨rfl, ih.2⟩
    · rw [if_neg h, if_neg h, if_neg h, if_neg h]
      exact ⟨rfl, .cons hc hr⟩
theorem Cs.nil_iff {l m : List UInt8} (h : Cs l m) : m = [] ↔ l = [] := by
  cases h with
  | nil => exact Iff.rfl
  | cons _ _ => simp
theorem Cs.isd {l m : List UInt8} (h : Cs l m) : isd m = isd l ∧ (isd l = true → m = l) := by
  obtain ⟨h1, h2⟩ := h.dg
  have key : Go.Proofs.YtgjdhfmpemionaaDoor.isd m = true ↔ Go.Proofs.YtgjdhfmpemionaaDoor.isd l = true := by
    rw [isd_iff, isd_iff, h1, h2.nil_iff]
  refine ⟨by rw [Bool.eq_iff_iff]; exact key, fun hl => ?_⟩
  have e1 := rst_nil ((isd_iff _).1 hl).2
  have e2 := rst_nil ((isd_iff _).1 (key.2 hl)).2
  rw [← e2, h1, e1]
theorem Cs.pt {l m : List UInt8} (h : Cs l m) : Lib.hasPrefix m [46] = Lib.hasPrefix l [46] ∧ Cs (Lib.trimPrefix l [46]) (Lib.trimPrefix m [46]) := by
  cases h with
  | nil => exact ⟨rfl, .nil⟩
  | @cons c d r s hc hr =>
    obtain ⟨_, _, f3, _⟩ := cas_facts hc
    by_cases h : (c.toNat : Int) = 46
    · have e1 := nat_eq (n := 46) h (by decide)
      have e2 := nat_eq (n := 46) (f3.1 h) (by decide)
      subst e1 e2
      have a : Lib.hasPrefix (UInt8.ofNat 46 :: s) [46] = true := hp_app [46] s
      have b : Lib.hasPrefix (UInt8.ofNat 46 :: r) [46] = true := hp_app [46] r
      rw [a, b]
      refine ⟨rfl, ?_⟩
      rw [show Lib.trimPrefix (UInt8.ofNat 46 :: r) [46] = r from tp_app [46] r, show Lib.trimPrefix (UInt8.ofNat 46 :: s) [46] = s from tp_app [46] s]
      exact hr
    · have a : Lib.hasPrefix (d :: s) [46] = false := by rw [hp_one]; exact nat_ne (n := 46) (fun e => h (f3.2 e)) (by decide)
      have b : Lib.hasPrefix (c :: r) [46] = false := by rw [hp_one]; exact nat_ne (n := 46) h (by decide)
      rw [a, b, tp_no a, tp_no b]
      exact ⟨rfl, .cons hc hr⟩
theorem Cs.ex {l m : List UInt8} (h : Cs l m) : exB m = exB l ∧ exI m = exI l := by
  cases h with
  | nil => exact ⟨rfl, rfl⟩
  | @cons c d r s hc hr =>
    obtain ⟨_, _, _, _, _, f6, _⟩ := cas_facts hc
    obtain ⟨g1, g2⟩ := hr.sg
    obtain ⟨i1, i2⟩ := g2.isd
    have e1 : exB (d :: s) = exB (c :: r) := by
      show (decide _ && _) = (decide _ && _)
      rw [i1, decide_eq_decide.2 f6.symm]
    refine ⟨e1, ?_⟩
    show (if exB (d :: s) then exS s else 0) = (if exB (c :: r) then exS r else 0)
    rw [e1]
    by_cases hx : exB (c :: r) = true
    · rw [if_pos hx, if_pos hx]
      have hi : Go.Proofs.YtgjdhfmpemionaaDoor.isd (sgR r) = true := by
        have h2 : (decide _ && Go.Proofs.YtgjdhfmpemionaaDoor.isd (sgR r)) = true := hx
        rw [Bool.and_eq_true] at h2; exact h2.2
      unfold exS
      rw [g1, i2 hi]
    · rw [if_neg hx, if_neg hx]
theorem Cs.sml {l m : List UInt8} (h : Cs l m) : sml m = sml l := by
  induction h with
  | nil => rfl
  | @cons c d r s hc hr ih =>
    show sm d :: _ = sm c :: _
    rw [(cas_facts hc).2.2.2.2.2.2]
    exact congrArg _ ih
theorem Cs.fin {l m : List UInt8} (h : Cs l m) : finB m = finB l ∧ finD m = finD l ∧ finE m = finE l := by
  obtain ⟨d1, d2⟩ := h.dg
  obtain ⟨p1, p2⟩ := d2.pt
  obtain ⟨t1, t2⟩ := p2.dg
  have hf : frac m = frac l := by unfold frac; rw [p1, t1]
  have hb : Cs (behind l) (behind m) := by
    unfold behind; rw [p1]; split
    · exact t2
    · exact d2
  obtain ⟨x1, x2⟩ := hb.ex
  unfold finB finD finE
  rw [x1, x2, d1, hf]
  exact ⟨rfl, rfl, rfl⟩
theorem Cs.cut {l m : List UInt8} (h : Cs l m) : cutV m = cutV l ∧ cutE m = cutE l := by
  have hl := h.len
  obtain ⟨s1, s2⟩ := h.sg
  obtain ⟨f1, f2, f3⟩ := s2.fin
  have hs := s2.sml
  have e : cutP m = cutP l := by
    unfold cutP bodP
    rw [hl, s1, f1, f2, f3, hs]
  unfold cutV cutE
  rw [e, hl]
  exact ⟨rfl, rfl⟩
/-! a plus ahead -/
theorem plus_signed (c : UInt8) (r : List UInt8) (hl : (c :: r).length ≤ 3000) (hc : (c.toNat : Int) = 43 ∨ (c.toNat : Int) = 45) : cutE (43 :: c :: r) = 2 := by
  have hf : finB (c :: r) = false := by
    cases e : finB (c :: r)
    · rfl
    · obtain ⟨c', t', h1, h2⟩ := fin_head e
      cases h1; omega
  have hsm : sml (c :: r) = c :: sml r := by
    show sm c :: sml r = _
    congr 1
    unfold sm; rw [if_neg (by omega)]
  have h1 : infB (c :: sml r) = false := inf_no (by intro h; rw [(List.cons.inj h).1] at hc; revert hc; decide) (by intro h; rw [(List.cons.inj h).1] at hc; revert hc; decide)
  have hp : Lib.hasPrefix (c :: sml r) [115] = false := by rw [hp_one]; exact nat_ne (n := 115) (by omega) (by decide)
  have h2 : nanB (c :: sml r) = false := nan_T (tp_no hp) (by rw [hp_cons, show (110 == c) = false from nat_ne (n := 110) (by omega) (by decide)]; rfl)
  have e : cutP (43 :: c :: r) = none := by
    unfold cutP
    rw [if_neg (by rw [List.length_cons]; omega)]
    show bodP _ (c :: r) = none
    unfold bodP
    rw [hf, hsm, h1, h2]
    rfl
  unfold cutE
  rw [if_neg (by rw [List.length_cons]; omega), e]
  rfl
theorem plus_bare (l : List UInt8) (hl : l.length ≤ 3000) (h : sgB l = false ∧ sgR l = l) : cutV (43 :: l) = cutV l ∧ cutE (43 :: l) = cutE l := by
  have e : cutP (43 :: l) = cutP l := by
    unfold cutP
    rw [if_neg (by rw [List.length_cons]; omega), if_neg (by omega), h.1, h.2]
    rfl
  have n1 : ¬ 4000 < (43 :: l).length := by rw [List.length_cons]; omega
  have n2 : ¬ 4000 < l.length := by omega
  unfold cutV cutE
  rw [e, if_neg n1, if_neg n2]
  exact ⟨rfl, rfl⟩
theorem plus_ways (l : List UInt8) (hl : l.length ≤ 3000) : (l.length = 0 ∧ cutV (43 :: l) = cutV l ∧ cutE (43 :: l) = cutE l) ∨ (0 < l.length ∧ by_ l 0 = 43 ∧ cutE (43 :: l) = 2) ∨ (0 < l.length ∧ by_ l 0 ≠ 43 ∧ by_ l 0 = 45 ∧ cutE (43 :: l) = 2) ∨ (0 < l.length ∧ by_ l 0 ≠ 43 ∧ by_ l 0 ≠ 45 ∧ cutV (43 :: l) = cutV l ∧ cutE (43 :: l) = cutE l) := by
  cases l with
  | nil => exact Or.inl ⟨rfl, plus_bare [] (by decide) ⟨rfl, rfl⟩⟩
  | cons c r =>
    right
    rw [by_zero]
    have hp : 0 < (c :: r).length := by simp
    by_cases h1 : (c.toNat : Int) = 43
    · exact Or.inl ⟨hp, h1, plus_signed c r hl (Or.inl h1)⟩
    · by_cases h2 : (c.toNat : Int) = 45
      · exact Or.inr (Or.inl ⟨hp, h1, h2, plus_signed c r hl (Or.inr h2)⟩)
      · refine Or.inr (Or.inr ⟨hp, h1, h2, plus_bare (c :: r) hl ⟨?_, ?_⟩⟩)
        · exact decide_eq_false h2
        · show (if _ then r else c :: r) = _
          rw [if_neg (by omega)]
end Go.Proofs.YtgjdhfmpemionaaDoor
