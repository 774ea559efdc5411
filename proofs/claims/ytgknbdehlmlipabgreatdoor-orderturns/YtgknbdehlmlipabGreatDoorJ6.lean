/-
  Texts that the proof leans on.
-/
import Derived.Test.YtgknbdehlmlipabGreatDoorJ3
import Derived.Test.YtgknbdehlmlipabGreatDoorJ2
import Derived.Lib.SmallJoins
set_option linter.unusedVariables false
set_option linter.unusedSimpArgs false
set_option linter.unusedSectionVars false
set_option maxRecDepth 20000
namespace Go.Proofs.YtgknbdehlmlipabGreatDoor
open Go.RowKit

section
variable {P : Program} {ops : Array Oper} {Q : Exit → Act → World → Prop} {md : Region.Mode}
theorem listed_set {listed : Array Bool} {i : Nat} (hi : i < listed.size) : (fun j => (listed.setIfInBounds i true).getD j false = true) = (fun j => listed.getD j false = true ∨ j = i) := by
  funext j
  apply propext
  by_cases e : j = i
  · subst e
    simp [hi]
  · rw [getD_set_ne false (fun h => e h.symm)]
    simp [e]
/-- 'B L a w': what stands where just the operations of L are done -/
theorem wpAny_inv3 {n : Nat} {B : (Nat → Prop) → Act → World → Prop} {tail : List Oper} (hs : Region.sinkB md ops n = true) (hc : Region.chainB md ops n = true) (hn : n < ops.size) (hb : backB md ops n = true)
    (htl : ∀ j, tail[j]? = ops[n + j]?) (hseq : Region.seqB md ops tail.length n (headDone n ops.size) = true)
    (hstep : ∀ (L : Nat → Prop) i o a w, i < n → ops[i]? = some o → ¬ L i → (∀ j oj, ops[j]? = some oj → L j → ∀ e ∈ oj.after, Region.binds md e = true → L e.on) → (∀ e ∈ o.after, Region.binds md e = true → L e.on) → B L a w → wpOp P ops Q i (fun a' w' => B (fun j => L j ∨ j = i) a' w') a w)
    (hend : ∀ (L : Nat → Prop) a w, (∀ i, i < n → L i) → B L a w → wpList P ops Q tail a w) :
    ∀ (f : Nat) (listed : Array Bool) (a : Act) (w : World), HeadInv md ops n listed → toCome listed n = f → B (fun j => listed.getD j false = true) a w → wpAny P md ops Q (f + tail.length) listed a w
  | 0, listed, a, w, inv, hf, hB => by
    have hz := toCome_zero n hf
    have he := headDone_eq (Nat.le_of_lt hn) inv hz
    have hw := hend _ a w (fun i hi => getD_true_in (by rw [inv.size]; omega) (hz i hi)) hB
    rw [Nat.zero_add, he]
    exact wpAny_of_seq tail n _ a w htl hseq hw
  | f + 1, listed, a, w, inv, hf, hB => by
    obtain ⟨k, hk, hku, hkl⟩ := toCome_least (listed := listed) n (by omega)
    rw [show f + 1 + tail.length = (f + tail.length) + 1 by omega]
    refine ⟨fun h0 => ?_, fun i hi => ?_⟩
    · obtain ⟨o, ho, hlt⟩ := backB_spec hb k hk
      have : k ∈ Region.ready md ops listed := mem_ready.2 ⟨hku, o, ho, fun e he hbd => by
        have := hlt e he hbd
        exact getD_true_in (by rw [inv.size]; omega) (hkl _ this)⟩
      rw [h0] at this; cases this
    · have hin : i < n := by
        rcases Nat.lt_or_ge i n with h | h
        · exact h
        · exact absurd hi (tail_waits hs hc hn inv _ k rfl hk hku i h)
      obtain ⟨hu, o, ho, hall⟩ := mem_ready.1 hi
      refine wpOp_mono (fun a' w' h3 => ?_) (hstep (fun j => listed.getD j false = true) i o a w hin ho (by show ¬ (listed.getD i false = true); rw [getD_both hu]; decide) inv.closed hall hB)
      refine wpAny_inv3 hs hc hn hb htl hseq hstep hend f _ a' w' (inv.set hi hin) (by have := toCome_set hu n hin; omega) ?_
      rw [listed_set (by rw [inv.size]; omega)]
      exact h3
theorem wp_region_inv3 (n : Nat) (B : (Nat → Prop) → Act → World → Prop) {id : Nat} {l : List Oper} {a : Act} {w : World} (hm : P.follows .mixedOrders = true) (hI : invB .any l.toArray n = true)
    (h0 : B (fun _ => False) a w.drew)
    (hstep : ∀ (L : Nat → Prop) i o a w, i < n → l[i]? = some o → ¬ L i → (∀ j oj, l[j]? = some oj → L j → ∀ e ∈ oj.after, Region.binds .any e = true → L e.on) → (∀ e ∈ o.after, Region.binds .any e = true → L e.on) → B L a w → wpOp P l.toArray Q i (fun a' w' => B (fun j => L j ∨ j = i) a' w') a w)
    (hend : ∀ (L : Nat → Prop) a w, (∀ i, i < n → L i) → B L a w → wpList P l.toArray Q (l.drop n) a w) : (Code.region id l.toArray true).wp P Q a w := by
  simp only [invB, Bool.and_eq_true, decide_eq_true_eq] at hI
  obtain ⟨⟨⟨⟨hs, hc⟩, hn⟩, hb⟩, hseq⟩ := hI
  have hdl : (l.drop n).length = l.toArray.size - n := by simp
  refine wp_region_any hm ?_
  have hf0 : (fun j => (Array.replicate l.toArray.size false).getD j false = true) = fun _ => False := by
    funext j
    rw [getD_replicate_false]
    simp
  have H := wpAny_inv3 (P := P) (Q := Q) (md := .any) (ops := l.toArray) (n := n) (B := B) (tail := l.drop n) hs hc hn hb (fun j => by simp [List.getElem?_drop]) (by rw [hdl]; exact hseq)
    (fun L i o a w hi ho hL hcl he hB => hstep L i o a w hi (by simpa using ho) hL (fun j oj hj => hcl j oj (by simpa using hj)) he hB) hend n (Array.replicate l.toArray.size false) a w.drew
    ⟨by simp, fun j oj _ hl => (by rw [getD_replicate_false] at hl; cases hl), fun t _ ht => getD_in (by simpa using ht) (getD_replicate_false _ _)⟩
    (toCome_replicate _ n (by simpa using Nat.le_of_lt hn)) (by rw [hf0]; exact h0)
  rw [hdl] at H
  have : n + (l.toArray.size - n) = l.toArray.size := by omega
  rw [this] at H
  exact H
end
end Go.Proofs.YtgknbdehlmlipabGreatDoor

namespace Go.Proofs.YtgknbdehlmlipabGreatDoor
open Go.RowKit

section
variable {P : Program} {Q : Exit → Act → World → Prop}
/-- each of the first n writes a slot of its own, or none, and has no guard -/
def dstM (l : List Oper) (D : List Nat) (n m : Nat) : Bool :=
  (List.range n).all fun i => (match l[i]? with
    | some o => (o.dst == none || (o.dst == some (D.getD i 0) && decide (D.getD i 0 < m))) && o.guard.isNone
    | none => false) && (List.range n).all fun j => j == i || D.getD j 0 != D.getD i 0
theorem dstM_spec {l : List Oper} {D : List Nat} {n m : Nat} (h : dstM l D n m = true) (i : Nat) (hi : i < n) (o : Oper) (ho : l[i]? = some o) :
    (o.dst = none ∨ (o.dst = some (D.getD i 0) ∧ D.getD i 0 < m)) ∧ o.guard = none ∧ ∀ j, j < n → j ≠ i → D.getD j 0 ≠ D.getD i 0 := by
  have h1 := List.all_eq_true.1 h i (List.mem_range.2 hi)
  simp only [ho, Bool.and_eq_true, decide_eq_true_eq, beq_iff_eq, List.all_eq_true, Bool.or_eq_true, bne_iff_ne, List.mem_range, Option.isNone_iff_eq_none] at h1
  exact ⟨h1.1.1, h1.1.2, fun j hj hne => (h1.2 j hj).resolve_left hne⟩
/-- the operation j writes its slot -/
def wrS (l : List Oper) (D : List Nat) (j : Nat) : Prop := (l[j]?).bind Oper.dst = some (D.getD j 0)
end
end Go.Proofs.YtgknbdehlmlipabGreatDoor

namespace Go.Proofs.YtgknbdehlmlipabGreatDoor
open Go.RowKit

section
variable {H : Type} {enc : TypeId × Value → H} {W : World} {base : Nat} {sp : Nat → Bool} {held : Bool}
theorem u59 : ∃ a b c d, Tryz.prog.underlying 82 = some (.struct #[a, b, c, d]) ∧ a.offset = 0 ∧ b.offset = 1 ∧ c.offset = 2 ∧ d.offset = 3 ∧ a.type = 9 ∧ b.type = 3 ∧ c.type = 3 ∧ d.type = 3 :=
  ⟨_, _, _, _, Tryz.underlying82, rfl, rfl, rfl, rfl, rfl, rfl, rfl, rfl⟩
theorem c9 : Tryz.prog.cellsOf 9 = 1 := by kernel_rfl
theorem c3 : Tryz.prog.cellsOf 3 = 1 := by kernel_rfl
theorem c59 : Tryz.prog.cellsOf 82 = 4 := by kernel_rfl
theorem c60 : Tryz.prog.cellsOf 83 = 48 := by kernel_rfl
theorem u60 : Tryz.prog.underlying 83 = some (.array 12 82) := by kernel_rfl
theorem row_cells {fuel : Nat} {cs : List Value} {nm : List UInt8} {a b c : Int} {p : DataW H × List MemPlace} (hp : p.1 = .agg [.lit (.string nm), .lit (.int .i64 a), .lit (.int .i64 b), .lit (.int .i64 c)])
    (h : DataW.trod enc Tryz.prog W base sp held fuel 82 cs = some p) : cs = [.string ⟨nm.toArray⟩, .int .i64 a, .int .i64 b, .int .i64 c] := by
  obtain ⟨f0, f1, f2, f3, hu, o0, o1, o2, o3, t0, t1, t2, t3⟩ := u59
  obtain ⟨y0, y1, y2, y3, n, rfl, hl, h0, h1, h2, h3⟩ := Joins.trod_struct4 hu h
  rw [o0, t0, c9] at h0
  rw [o1, t1, c3] at h1
  rw [o2, t2, c3] at h2
  rw [o3, t3, c3] at h3
  obtain ⟨s, hs, rfl, _⟩ := DataW.trod_string Tryz.underlying9 h0
  obtain ⟨z1, hz1, rfl, _⟩ := DataW.trod_int Tryz.underlying3 h1
  obtain ⟨z2, hz2, rfl, _⟩ := DataW.trod_int Tryz.underlying3 h2
  obtain ⟨z3, hz3, rfl, _⟩ := DataW.trod_int Tryz.underlying3 h3
  simp only [DataW.agg.injEq, List.cons.injEq, DataW.lit.injEq, Lit.string.injEq, Lit.int.injEq, true_and, and_true] at hp
  obtain ⟨rfl, rfl, rfl, rfl⟩ := hp
  rw [c59] at hl
  match cs, hl with
  | [v0, v1, v2, v3], _ =>
    simp at hs hz1 hz2 hz3
    subst hs hz1 hz2 hz3
    rfl
theorem row_at {cs : List Value} {i : Nat} {v0 v1 v2 v3 : Value} (h : (cs.drop (i * 4)).take 4 = [v0, v1, v2, v3]) : cs[i * 4]? = some v0 ∧ cs[i * 4 + 1]? = some v1 ∧ cs[i * 4 + 2]? = some v2 ∧ cs[i * 4 + 3]? = some v3 := by
  have g : ∀ k, k < 4 → cs[i * 4 + k]? = [v0, v1, v2, v3][k]? := fun k hk => by
    rw [← h, List.getElem?_take_of_lt hk, List.getElem?_drop]
  exact ⟨g 0 (by decide), g 1 (by decide), g 2 (by decide), g 3 (by decide)⟩
theorem tab_of_trod {fuel : Nat} {cs : List Value} {p : List MemPlace} (h : DataW.trod enc Tryz.prog W base sp held fuel 83 cs = some (Rows.laid_caliper_desc_rows, p)) :
    ∀ i k, i < 12 → k < 4 → cs[i * 4 + k]? = some (rowV i k) := by
  cases fuel with
  | zero => simp [DataW.trod] at h
  | succ fuel =>
    simp only [DataW.trod, u60, c59, c60] at h
    split at h
    · rename_i hl
      obtain ⟨xs, hm, hx⟩ := Option.map_eq_some_iff.1 h
      have hxs := congrArg Prod.fst hx
      simp only [Rows.laid_caliper_desc_rows, DataW.agg.injEq] at hxs
      intro i k hi hk
      obtain ⟨b, hb, hf⟩ := Lib.mapM_at hm i i (by simp [hi])
      have hd : (xs.map (·.1))[i]? = some b.1 := by simp [hb]
      rw [hxs] at hd
      have key : ∀ (nm : List UInt8) (x y z : Int), b.1 = .agg [.lit (.string nm), .lit (.int .i64 x), .lit (.int .i64 y), .lit (.int .i64 z)] → cs[i * 4]? = some (.string ⟨nm.toArray⟩) ∧ cs[i * 4 + 1]? = some (.int .i64 x) ∧ cs[i * 4 + 2]? = some (.int .i64 y) ∧ cs[i * 4 + 3]? = some (.int .i64 z) :=
        fun nm x y z e => row_at (row_cells e hf)
      have hk' : k = 0 ∨ k = 1 ∨ k = 2 ∨ k = 3 := by omega
      have hi' : i = 0 ∨ i = 1 ∨ i = 2 ∨ i = 3 ∨ i = 4 ∨ i = 5 ∨ i = 6 ∨ i = 7 ∨ i = 8 ∨ i = 9 ∨ i = 10 ∨ i = 11 := by omega
      rcases hi' with rfl | rfl | rfl | rfl | rfl | rfl | rfl | rfl | rfl | rfl | rfl | rfl
      all_goals
        obtain ⟨q0, q1, q2, q3⟩ := key _ _ _ _ (Option.some.inj hd).symm
        rcases hk' with rfl | rfl | rfl | rfl
        · exact q0
        · exact q1
        · exact q2
        · exact q3
    · cases h
end
theorem tab_of_laid {W : World} {rest : List (String × DataW Unit)} (h : laidMet Tryz.prog (("caliper/desc.rows", Rows.laid_caliper_desc_rows) :: rest) W) : Tab W := by
  obtain ⟨ps, ⟨g', t', cs, fuel, p, q, hg', ht', hvar, hd, _, _⟩, _⟩ := h
  have hg : Tryz.prog.globalNamed "caliper/desc.rows" = some 0 := by kernel_rfl
  have hty : (Tryz.prog.globals[0]?).map (·.type) = some 83 := by kernel_rfl
  obtain rfl := Option.some.inj (hg.symm.trans hg')
  obtain rfl := Option.some.inj (hty.symm.trans ht')
  have hc := tab_of_trod hd
  have hcell : ∀ i k, i < 12 → k < 4 → W.cell? ⟨0, i * 4 + k, none⟩ = some (rowV i k) := fun i k hi hk => by
    have := World.var?_cell hg hvar (i * 4 + k)
    rw [this, ← hc i k hi hk]
    simp
  refine ⟨?_, hcell⟩
  have h0 := hcell 0 0 (by decide) (by decide)
  by_cases hz : 0 < W.heap.size
  · exact hz
  · have : W.heap[0]? = none := Array.getElem?_eq_none (by omega)
    simp [World.cell?, this] at h0
end Go.Proofs.YtgknbdehlmlipabGreatDoor
