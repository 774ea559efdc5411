/-
  Texts that the proof leans on, joined: Ot, Ou, Vk, Di, Vn, Uh, Ui, Uj.
-/
import Derived.Test.YtmommdhnogogdaaDoorJ28
import Derived.Test.YtmommdhnogogdaaDoorJ25
import Derived.Test.YtmommdhnogogdaaDoorJ8
import Derived.Test.YtmommdhnogogdaaDoorJ17
import Derived.Test.YtmommdhnogogdaaDoorJ21
import Derived.Test.YtmommdhnogogdaaDoorJ11
import Derived.Test.YtmommdhnogogdaaDoorJ16
import Derived.Test.YtmommdhnogogdaaDoorJ20
import Derived.Test.YtmommdhnogogdaaDoorJ24
import Derived.Test.YtmommdhnogogdaaDoorJ15
import Derived.Test.YtmommdhnogogdaaDoorJ1
set_option linter.unusedVariables false
set_option linter.unusedSectionVars false
set_option linter.unusedSimpArgs false
set_option maxRecDepth 20000
namespace Go.Proofs.YtmommdhnogogdaaDoor
open Go.RowKit

section
variable {a : Act} {w : World} {K : Act → World → Prop} {Q : Exit → Act → World → Prop} {d p : Nat} {ty : TypeId} {pos : String} {after : Array Edge} {gd : Option (Nat × Bool)}
theorem og_c1 {F : Nat} {p0 : Nat} {u0 : Value} {ts : Array TypeId} (hr : Sem.run Tryd.prog (callFunc F #[u0]) w = .ok (.enter F #[u0]) w) (h0 : slot a p0 = u0) (hc : Calls Tryd.prog F #[u0] w fun e w' => ∃ v, e = .returned v ∧ K (a.put (some d) v) w') : Oper.wp Tryd.prog { dst := some d, op := Op.call { callee := Callee.value (Operand.func F), args := #[Operand.tmp p0], argTypes := ts }, type := ty, pos := pos, after := after, guard := gd } a w K Q := by
  unfold slot at h0
  simp [go_sem, h0, hr]
  refine hc.mono ?_
  rintro e w' ⟨v, rfl, hK⟩
  exact hK
theorem og_ext {P : Program} {vs : Array Value} {i : Nat} {v : Value} (h1 : slot a p = .tuple vs) (h2 : vs[i]? = some v) (hK : K (a.put (some d) v) w) : Oper.wp P { dst := some d, op := Op.extract (Operand.tmp p) i, type := ty, pos := pos, after := after, guard := gd } a w K Q := by
  unfold slot at h1
  simp [go_sem, h1, h2]
  exact hK
end
end Go.Proofs.YtmommdhnogogdaaDoor

namespace Go.Proofs.YtmommdhnogogdaaDoor
open Go.RowKit

section
variable {P : Program} {ops : Array Oper} {Q : Exit → Act → World → Prop} {md : Region.Mode}
def invR (md : Region.Mode) (ops : Array Oper) (n : Nat) : Bool :=
  Region.sinkB md ops n && chainC md ops n && decide (n < ops.size) && backB md ops n && restB md ops n
theorem rest_of {n : Nat} {l : List Oper} {a : Act} {w : World} (hn : n < l.length) (hR : restB .any l.toArray n = true) (hQ : ∀ c a d v w, Q (.panic c) (Act.put a d v) w → Q (.panic c) a w) (h : wpList P l.toArray Q (l.drop n) a w) : wpAny P .any l.toArray Q (l.drop n).length (fdone n l.toArray.size) a w := by
  have hsz : l.toArray.size = l.length := by simp
  simp only [restB, Bool.and_eq_true, List.isEmpty_iff] at hR
  obtain ⟨⟨hsel, hall⟩, hend⟩ := hR
  exact wpAny_rest (P := P) (md := .any) (Q := Q) hsel hQ hend (l.drop n) n a w (fun j => by simp [List.getElem?_drop]) (by simp; omega) (fun j hj1 hj2 => by
    have h5 := List.all_eq_true.1 hall (j - n) (List.mem_range.2 (by omega))
    rw [show n + (j - n) = j by omega] at h5
    simp only [Bool.or_eq_true, Bool.and_eq_true, decide_eq_true_eq] at h5
    rcases h5 with h5 | ⟨⟨h5, h6⟩, h7⟩
    · exact Or.inl h5
    · refine Or.inr ⟨h5, h6, ?_⟩
      cases ho : l.toArray[j]? with
      | none => rw [ho] at h7; cases h7
      | some o =>
        rw [ho] at h7
        simp only [Option.map_some, Option.getD_some, Bool.and_eq_true, Option.isNone_iff_eq_none] at h7
        exact ⟨o, rfl, h7.1, h7.2⟩) h
theorem wpAny_inv4 {n : Nat} {B : (Nat → Prop) → Act → World → Prop} {l : List Oper} (hs : Region.sinkB .any l.toArray n = true) (hc : chainC .any l.toArray n = true) (hn : n < l.toArray.size) (hb : backB .any l.toArray n = true) (hR : restB .any l.toArray n = true) (hQ : ∀ c a d v w, Q (.panic c) (Act.put a d v) w → Q (.panic c) a w)
    (hstep : ∀ (L : Nat → Prop) i o a w, i < n → l.toArray[i]? = some o → ¬ L i → (∀ j oj, l.toArray[j]? = some oj → L j → ∀ e ∈ oj.after, Region.binds .any e = true → L e.on) → (∀ e ∈ o.after, Region.binds .any e = true → L e.on) → B L a w → wpOp P l.toArray Q i (fun a' w' => B (fun j => L j ∨ j = i) a' w') a w)
    (hend : ∀ (L : Nat → Prop) a w, (∀ i, i < n → L i) → B L a w → wpList P l.toArray Q (l.drop n) a w) :
    ∀ (f : Nat) (listed : Array Bool) (a : Act) (w : World), HeadInv .any l.toArray n listed → toCome listed n = f → B (fun j => listed.getD j false = true) a w → wpAny P .any l.toArray Q (f + (l.drop n).length) listed a w
  | 0, listed, a, w, inv, hf, hB => by
    have hz := toCome_zero n hf
    have he := headDone_eq (Nat.le_of_lt hn) inv hz
    have hw := hend _ a w (fun i hi => getD_true_in (by rw [inv.size]; omega) (hz i hi)) hB
    rw [Nat.zero_add, he]
    exact rest_of (by simpa using hn) hR hQ hw
  | f + 1, listed, a, w, inv, hf, hB => by
    obtain ⟨k, hk, hku, hkl⟩ := toCome_least (listed := listed) n (by omega)
    rw [show f + 1 + (l.drop n).length = (f + (l.drop n).length) + 1 by omega]
    refine ⟨fun h0 => ?_, fun i hi => ?_⟩
    · obtain ⟨o, ho, hlt⟩ := backB_spec hb k hk
      have : k ∈ Region.ready .any l.toArray listed := mem_ready.2 ⟨hku, o, ho, fun e he hbd => by
        have := hlt e he hbd
        exact getD_true_in (by rw [inv.size]; omega) (hkl _ this)⟩
      rw [h0] at this; cases this
    · have hin : i < n := by
        rcases Nat.lt_or_ge i n with h | h
        · exact h
        · exact absurd hi (waits_tail hs hc hn inv hk hku i h)
      obtain ⟨hu, o, ho, hall⟩ := mem_ready.1 hi
      refine wpOp_mono (fun a' w' h3 => ?_) (hstep (fun j => listed.getD j false = true) i o a w hin ho (by show ¬ (listed.getD i false = true); rw [getD_both hu]; decide) inv.closed hall hB)
      refine wpAny_inv4 hs hc hn hb hR hQ hstep hend f _ a' w' (inv.set hi hin) (by have := toCome_set hu n hin; omega) ?_
      rw [listed_set (by rw [inv.size]; omega)]
      exact h3
theorem wp_region_inv4 (n : Nat) (B : (Nat → Prop) → Act → World → Prop) {id : Nat} {l : List Oper} {a : Act} {w : World} (hm : P.follows .mixedOrders = true) (hI : invR .any l.toArray n = true) (hQ : ∀ c a d v w, Q (.panic c) (Act.put a d v) w → Q (.panic c) a w)
    (h0 : B (fun _ => False) a w.drew)
    (hstep : ∀ (L : Nat → Prop) i o a w, i < n → l[i]? = some o → ¬ L i → (∀ j oj, l[j]? = some oj → L j → ∀ e ∈ oj.after, Region.binds .any e = true → L e.on) → (∀ e ∈ o.after, Region.binds .any e = true → L e.on) → B L a w → wpOp P l.toArray Q i (fun a' w' => B (fun j => L j ∨ j = i) a' w') a w)
    (hend : ∀ (L : Nat → Prop) a w, (∀ i, i < n → L i) → B L a w → wpList P l.toArray Q (l.drop n) a w) : (Code.region id l.toArray true).wp P Q a w := by
  simp only [invR, Bool.and_eq_true, decide_eq_true_eq] at hI
  obtain ⟨⟨⟨⟨hs, hc⟩, hn⟩, hb⟩, hR⟩ := hI
  have hdl : (l.drop n).length = l.toArray.size - n := by simp
  refine wp_region_any hm ?_
  have hf0 : (fun j => (Array.replicate l.toArray.size false).getD j false = true) = fun _ => False := by
    funext j
    rw [getD_replicate_false]
    simp
  have H := wpAny_inv4 (P := P) (Q := Q) (n := n) (B := B) (l := l) hs hc hn hb hR hQ
    (fun L i o a w hi ho hL hcl he hB => hstep L i o a w hi (by simpa using ho) hL (fun j oj hj => hcl j oj (by simpa using hj)) he hB) hend n (Array.replicate l.toArray.size false) a w.drew
    ⟨by simp, fun j oj _ hl => (by rw [getD_replicate_false] at hl; cases hl), fun t _ ht => getD_in (by simpa using ht) (getD_replicate_false _ _)⟩
    (toCome_replicate _ n (by simpa using Nat.le_of_lt hn)) (by rw [hf0]; exact h0)
  rw [hdl] at H
  have : n + (l.toArray.size - n) = l.toArray.size := by omega
  rw [this] at H
  exact H
theorem wp_region_memr (n m : Nat) (D : List Nat) (S : List (Value → World → Prop)) (T : World → World → Prop) (M : (Nat → Prop) → (Nat → Value) → World → Prop) {id : Nat} {l : List Oper} {a0 : Act} {w0 : World} (hm : P.follows .mixedOrders = true) (hI : invR .any l.toArray n = true) (hQ : ∀ c a d v w, Q (.panic c) (Act.put a d v) w → Q (.panic c) a w) (hD : dstM l D n m = true)
    (hsz : a0.tmps.size = m) (hS : ∀ p ∈ S, ∀ v w w', p v w → T w w' → p v w') (hM0 : M (fun _ => False) (slot a0) w0.drew)
    (hstep : ∀ (L : Nat → Prop) i o a w, i < n → l[i]? = some o → ¬ L i → (∀ j oj, l[j]? = some oj → L j → ∀ e ∈ oj.after, Region.binds .any e = true → L e.on) → (∀ e ∈ o.after, Region.binds .any e = true → L e.on) → M L (slot a) w →
      (∀ t, (∀ i, i < n → D.getD i 0 ≠ t) → slot a t = slot a0 t) → (∀ j, j < n → wrS l D j → L j → (S.getD j fun _ _ => True) (slot a (D.getD j 0)) w) →
      o.wp P a w (fun a' w' => ∃ v, a' = a.put o.dst v ∧ (S.getD i fun _ _ => True) v w' ∧ T w w' ∧ M (fun j => L j ∨ j = i) (fun t => if o.dst = some t then v else slot a t) w') Q)
    (hend : ∀ (L : Nat → Prop) a w, (∀ i, i < n → L i) → M L (slot a) w → a.tmps.size = m → a.defers = a0.defers → (∀ t, (∀ i, i < n → D.getD i 0 ≠ t) → slot a t = slot a0 t) → (∀ i, i < n → wrS l D i → (S.getD i fun _ _ => True) (slot a (D.getD i 0)) w) → wpList P l.toArray Q (l.drop n) a w) :
    (Code.region id l.toArray true).wp P Q a0 w0 := by
  have hSt : ∀ i v w w', (S.getD i fun _ _ => True) v w → T w w' → (S.getD i fun _ _ => True) v w' := by
    intro i
    rcases Nat.lt_or_ge i S.length with h | h
    · rw [List.getD_eq_getElem?_getD, List.getElem?_eq_getElem h]; exact hS _ (List.getElem_mem h)
    · rw [List.getD_eq_getElem?_getD, List.getElem?_eq_none h]; exact fun _ _ _ _ _ => trivial
  refine wp_region_inv4 n (fun L a w => M L (slot a) w ∧ a.tmps.size = m ∧ a.defers = a0.defers ∧ (∀ t, (∀ i, i < n → D.getD i 0 ≠ t) → slot a t = slot a0 t) ∧ ∀ j, j < n → wrS l D j → L j → (S.getD j fun _ _ => True) (slot a (D.getD j 0)) w) hm hI hQ
    ⟨hM0, hsz, rfl, fun _ _ => rfl, fun _ _ _ h => h.elim⟩ ?_ (fun L a w hL hB => hend L a w hL hB.1 hB.2.1 hB.2.2.1 hB.2.2.2.1 fun i hi hw => hB.2.2.2.2 i hi hw (hL i hi))
  intro L i o a w hi ho hL hcl he hB
  obtain ⟨hd, hg, hne⟩ := dstM_spec hD i hi o ho
  have hw := hstep L i o a w hi ho hL hcl he hB.1 hB.2.2.2.1 hB.2.2.2.2
  unfold wpOp
  have ho' : l.toArray[i]? = some o := by simpa using ho
  simp only [ho']
  rw [if_pos (by unfold Region.wanted; rw [hg])]
  refine Or.inl (Oper.wp_mono ?_ hw)
  rintro a' w' ⟨v, rfl, hv, hT, hM⟩
  rcases hd with hd | ⟨hd, hlt⟩
  · have ea : a.put o.dst v = a := by rw [hd]; rfl
    have em : (fun t => if o.dst = some t then v else slot a t) = slot a := by funext t; rw [hd]; simp
    rw [ea]
    rw [em] at hM
    refine ⟨hM, hB.2.1, hB.2.2.1, hB.2.2.2.1, fun j hj hwj hLj => ?_⟩
    rcases hLj with hLj | rfl
    · exact hSt j _ _ _ (hB.2.2.2.2 j hj hwj hLj) hT
    · unfold wrS at hwj; rw [ho] at hwj; simp [hd] at hwj
  · have em : (fun t => if o.dst = some t then v else slot a t) = slot (a.put o.dst v) := by
      funext t
      rw [hd]
      by_cases h : D.getD i 0 = t
      · subst h
        rw [if_pos rfl, slot_put (by rw [hB.2.1]; exact hlt)]
      · rw [if_neg (fun e => h (Option.some.inj e)), slot_put_ne h]
    rw [em] at hM
    refine ⟨hM, by rw [hd]; simp [Act.put, hB.2.1], by rw [hd]; exact hB.2.2.1, fun t ht => ?_, fun j hj hwj hLj => ?_⟩
    · rw [hd, slot_put_ne (ht i hi)]; exact hB.2.2.2.1 t ht
    · by_cases hji : j = i
      · subst hji
        rw [hd, slot_put (by rw [hB.2.1]; exact hlt)]; exact hv
      · rw [hd, slot_put_ne (fun h => hne j hj hji h.symm)]
        exact hSt j _ _ _ (hB.2.2.2.2 j hj hwj (hLj.resolve_right hji)) hT
end
end Go.Proofs.YtmommdhnogogdaaDoor

namespace Go.Proofs.YtmommdhnogogdaaDoor
open Go.RowKit
attribute [local irreducible] W4 NT NV
section
variable {a : Act} {w : World} {K : Act → World → Prop} {Q : Exit → Act → World → Prop} {d p : Nat} {ty : TypeId} {pos : String} {after : Array Edge} {gd : Option (Nat × Bool)}
end
theorem put_sizeV {a : Act} {d : Nat} {v : Value} : (a.put (some d) v).tmps.size = a.tmps.size := by simp [Act.put]
end Go.Proofs.YtmommdhnogogdaaDoor

namespace Go.Proofs.YtmommdhnogogdaaDoor
open Go.RowKit

/-- a number or nothing -/
def NN (K X : Nat) (v : Value) (w : World) : Prop := (v = .slice none 0 0 ∧ X = 0) ∨ NT K X v w
theorem NN.next {K X : Nat} {v : Value} {w w' : World} (h : NN K X v w) (hb : Below w.heap.size w w') : NN K X v w' := by
  rcases h with h | h
  · exact Or.inl h
  · exact Or.inr (h.next hb)
attribute [local irreducible] W4 NT NV NN
end Go.Proofs.YtmommdhnogogdaaDoor

namespace Go.Proofs.YtmommdhnogogdaaDoor
open Go.RowKit
theorem DV_same (c x : Int) (s g : Bool) (k : Nat) (w : World) : Sem.run Tryd.prog (Op.equalIn 10000 30 (.agg #[.int .i64 c, .bool s, .bool g, .int .i64 x, .int .u64 (W4 k 0), .int .u64 (W4 k 1), .int .u64 (W4 k 2), .int .u64 (W4 k 3)]) (.agg #[.int .i64 c, .bool s, .bool g, .int .i64 x, .int .u64 (W4 k 0), .int .u64 (W4 k 1), .int .u64 (W4 k 2), .int .u64 (W4 k 3)])) w = .ok true w := by
  have := eq27 c c s s g g x x (W4 k 0) (W4 k 1) (W4 k 2) (W4 k 3) (W4 k 0) (W4 k 1) (W4 k 2) (W4 k 3) w
  rw [decide_eq_true ⟨rfl, rfl, rfl, rfl, rfl, rfl, rfl, rfl⟩] at this
  exact this
attribute [local irreducible] W4
end Go.Proofs.YtmommdhnogogdaaDoor

namespace Go.Proofs.YtmommdhnogogdaaDoor
open Go.RowKit
theorem tnX_eq {N D : Nat} {E : Int} (hN : 0 < N) (hD : 0 < D) (h : TnE N D E) : tnX N D = E := (tnX_is hN hD).only h
theorem third : rqD 7 0 false 1 3 0 0 = ⟨1, false, false, -7, 3333333⟩ ∧ rqF 7 0 false 1 3 0 = 8 ∧ rqE 7 0 1 3 = 0 := by
  have e0 : rqE 7 0 1 3 = 0 := by
    have b1 : bl 1 ≤ 2 := bl_le.2 (by decide)
    have b3 : bl 3 ≤ 2 := bl_le.2 (by decide)
    unfold rqE
    rw [if_pos ⟨by unfold decN; omega, by unfold knB; omega, by decide⟩, if_neg (by omega)]
  have eX : tnX (1 * 10 ^ (clT 0).toNat) (3 * 10 ^ (-(clT 0)).toNat) = -1 := tnX_eq (by decide) (by decide) ⟨by decide, by decide⟩
  refine ⟨?_, ?_, e0⟩
  · unfold rqD
    rw [if_pos e0, if_neg (by decide), eX]
    have h1 : (dkD (fD 7) 0 false (1 * 10 ^ (clT 0).toNat) (3 * 10 ^ (-(clT 0)).toNat) (-1) 0).c = 1 ∧ (dkD (fD 7) 0 false (1 * 10 ^ (clT 0).toNat) (3 * 10 ^ (-(clT 0)).toNat) (-1) 0).s = false ∧ (dkD (fD 7) 0 false (1 * 10 ^ (clT 0).toNat) (3 * 10 ^ (-(clT 0)).toNat) (-1) 0).g = false ∧ (dkD (fD 7) 0 false (1 * 10 ^ (clT 0).toNat) (3 * 10 ^ (-(clT 0)).toNat) (-1) 0).x = -7 ∧ (dkD (fD 7) 0 false (1 * 10 ^ (clT 0).toNat) (3 * 10 ^ (-(clT 0)).toNat) (-1) 0).k = 3333333 := by decide +kernel
    generalize dkD (fD 7) 0 false (1 * 10 ^ (clT 0).toNat) (3 * 10 ^ (-(clT 0)).toNat) (-1) 0 = R at h1 ⊢
    obtain ⟨c, s, g, x, k⟩ := R
    simp only at h1
    obtain ⟨rfl, rfl, rfl, rfl, rfl⟩ := h1
    rfl
  · unfold rqF
    rw [if_pos e0, if_neg (by decide), eX]
    decide +kernel
attribute [local irreducible] W4 Nt
section
variable (TT : World → Prop) (hTT : ∀ w w', TT w → Below w.heap.size w w' → TT w')
include hTT
set_option maxHeartbeats 1000000 in
theorem awake15 (w : World) (hT : TT w) (dD : ∀ W vn vd, TT W → Nt 2001 1 vn W → Nt 2001 3 vd W → Calls Tryd.prog 8 #[.int .i64 7, .int .i64 0, .bool false, vn, vd, .int .i64 0, .int .i64 0] W fun r w' => r = .returned (.tuple #[(rqD 7 0 false 1 3 0 0).v, .int .i64 (rqF 7 0 false 1 3 0), .int .i64 (rqE 7 0 1 3)]) ∧ Below W.heap.size W w') :
    Calls Tryd.prog 7 #[] w fun r w' => r = .returned (.bool true) ∧ Below w.heap.size w w' := by
  obtain ⟨e1, e2, e3⟩ := third
  rw [e1, e2, e3] at dD
  have hr : (Dat.mk 1 false false (-7) 3333333).v = .agg #[.int .i64 1, .bool false, .bool false, .int .i64 (-7), .int .u64 3333333, .int .u64 0, .int .u64 0, .int .u64 0] := by
    unfold Dat.v DV; rw [show W4 3333333 0 = 3333333 by unfold W4; decide +kernel, show W4 3333333 1 = 0 by unfold W4; decide +kernel, show W4 3333333 2 = 0 by unfold W4; decide +kernel, show W4 3333333 3 = 0 by unfold W4; decide +kernel]
  rw [hr] at dD
  have hq := eq24 3333333 0 0 0 3333333 0 0 0
  simp only [and_self, decide_true] at hq
  have hsm := cell_set_map
  go_enter Tryd.func7, Tryd.ntmps7
  go_wp2_with (go_at_call 8; refine (dD _ _ _ (hTT _ _ hT bgo) (nt_one2 (by simp) rfl (by decide)) ((nt_one (by simp) rfl (by decide)).more (by decide))).mono ?_; rintro r w1 ⟨rfl, hb1⟩; obtain ⟨hc1, hf1⟩ := bcell hb1; have hz1_0 : w.heap.size < w1.heap.size := lt_below hb1 ltg; have hl1_0 := Nat.le_of_lt hz1_0; have hz1_1 : w.heap.size + 1 < w1.heap.size := lt_below hb1 ltg; have hl1_1 := Nat.le_of_lt hz1_1; have hA1 := bnext (w0 := w) bgo hb1; have hs1 := hA1.size; clear hb1)
  go_ret
  exact ⟨by first | rfl | simp, bgo⟩
variable (n d x y : Int) (s : Bool) (an ad : Option Addr) (kn cn kd cd : Nat) (w : World) (hT : TT w)
  (c9 : ∀ W, TT W → Calls Tryd.prog 7 #[] W fun r w' => r = .returned (.bool true) ∧ Below W.heap.size W w')
include hT c9
set_option maxHeartbeats 2000000 in
theorem decimal15_ln (h : (600 : Int) < (kn : Int)) :
    Calls Tryd.prog 3 #[.int .i64 n, .int .i64 d, .bool s, .slice an kn cn, .slice ad kd cd, .agg #[.int .i64 x, .int .i64 y]] w fun r w' => r = .returned (.bool true) ∧ Below w.heap.size w w' := by
  have hsm := cell_set_map
  go_enter Tryd.func3, Tryd.ntmps3
  go_wp2_with (first
    | (go_at_call 7; refine (c9 _ (hTT _ _ hT bgo)).mono ?_; rintro r w1 ⟨rfl, hb1⟩; obtain ⟨hc1, hf1⟩ := bcell hb1; have hz1_0 : w.heap.size < w1.heap.size := lt_below hb1 ltg; have hl1_0 := Nat.le_of_lt hz1_0; have hA1 := bnext (w0 := w) bgo hb1; have hs1 := hA1.size; clear hb1)
    | (go_at_call 7; refine (c9 _ (hTT _ _ hT bgo)).mono ?_; rintro r w2 ⟨rfl, hb2⟩; obtain ⟨hc2, hf2⟩ := bcell hb2; have hz2_0 : w.heap.size < w2.heap.size := lt_below hb2 ltg; have hl2_0 := Nat.le_of_lt hz2_0; have hA2 := bnext (w0 := w) bgo hb2; have hs2 := hA2.size; clear hb2))
  go_ret
  exact ⟨by first | rfl | simp, bgo⟩
set_option maxHeartbeats 2000000 in
theorem decimal15_ld (h : ¬ (600 : Int) < (kn : Int)) (h' : (600 : Int) < (kd : Int)) :
    Calls Tryd.prog 3 #[.int .i64 n, .int .i64 d, .bool s, .slice an kn cn, .slice ad kd cd, .agg #[.int .i64 x, .int .i64 y]] w fun r w' => r = .returned (.bool true) ∧ Below w.heap.size w w' := by
  have hsm := cell_set_map
  go_enter Tryd.func3, Tryd.ntmps3
  go_wp2_with (first
    | (go_at_call 7; refine (c9 _ (hTT _ _ hT bgo)).mono ?_; rintro r w1 ⟨rfl, hb1⟩; obtain ⟨hc1, hf1⟩ := bcell hb1; have hz1_0 : w.heap.size < w1.heap.size := lt_below hb1 ltg; have hl1_0 := Nat.le_of_lt hz1_0; have hA1 := bnext (w0 := w) bgo hb1; have hs1 := hA1.size; clear hb1)
    | (go_at_call 7; refine (c9 _ (hTT _ _ hT bgo)).mono ?_; rintro r w2 ⟨rfl, hb2⟩; obtain ⟨hc2, hf2⟩ := bcell hb2; have hz2_0 : w.heap.size < w2.heap.size := lt_below hb2 ltg; have hl2_0 := Nat.le_of_lt hz2_0; have hA2 := bnext (w0 := w) bgo hb2; have hs2 := hA2.size; clear hb2))
  go_ret
  exact ⟨by first | rfl | simp, bgo⟩
set_option maxHeartbeats 2000000 in
theorem decimal15_k (h : ¬ (600 : Int) < (kn : Int)) (h' : ¬ (600 : Int) < (kd : Int)) (vc vx : Int) (vs vg : Bool) (vk : Nat) (F E : Int)
    (c10 : ∀ W, TT W → Below w.heap.size w W → Calls Tryd.prog 8 #[.int .i64 n, .int .i64 d, .bool s, .slice an kn cn, .slice ad kd cd, .int .i64 x, .int .i64 y] W fun r w' => r = .returned (.tuple #[DV vc vs vg vx vk, .int .i64 F, .int .i64 E]) ∧ Below W.heap.size W w')
    (c11 : ∀ W, Below w.heap.size w W → Calls Tryd.prog 9 #[.int .i64 n, .int .i64 d, .bool s, .slice an kn cn, .slice ad kd cd, .int .i64 x, .int .i64 y] W fun r w' => r = .returned (.tuple #[DV vc vs vg vx vk, .int .i64 F, .int .i64 E]) ∧ Below W.heap.size W w') :
    Calls Tryd.prog 3 #[.int .i64 n, .int .i64 d, .bool s, .slice an kn cn, .slice ad kd cd, .agg #[.int .i64 x, .int .i64 y]] w fun r w' => r = .returned (.bool true) ∧ Below w.heap.size w w' := by
  have hQ := DV_same vc vx vs vg vk
  have hsm := cell_set_map
  unfold DV at *
  go_enter Tryd.func3, Tryd.ntmps3
  go_wp2_with (first
    | (go_at_call 7; refine (c9 _ (hTT _ _ hT bgo)).mono ?_; rintro r w1 ⟨rfl, hb1⟩; obtain ⟨hc1, hf1⟩ := bcell hb1; have hz1_0 : w.heap.size < w1.heap.size := lt_below hb1 ltg; have hl1_0 := Nat.le_of_lt hz1_0; have hA1 := bnext (w0 := w) bgo hb1; have hs1 := hA1.size; clear hb1)
    | (go_at_call 8; refine (c10 _ (hTT _ _ hT bgo) bgo).mono ?_; rintro r w2 ⟨rfl, hb2⟩; obtain ⟨hc2, hf2⟩ := bcell hb2; have hz2_0 : w.heap.size < w2.heap.size := lt_below hb2 ltg; have hl2_0 := Nat.le_of_lt hz2_0; have hA2 := bnext (w0 := w) bgo hb2; have hs2 := hA2.size; clear hb2)
    | (go_at_call 9; refine (c11 _ bgo).mono ?_; rintro r w3 ⟨rfl, hb3⟩; obtain ⟨hc3, hf3⟩ := bcell hb3; have hz3_0 : w.heap.size < w3.heap.size := lt_below hb3 ltg; have hl3_0 := Nat.le_of_lt hz3_0; have hz3_1 : w2.heap.size < w3.heap.size := lt_below hb3 ltg; have hl3_1 := Nat.le_of_lt hz3_1; have hA3 := bnext (w0 := w) bgo hb3; have hs3 := hA3.size; clear hb3))
  go_ret
  exact ⟨by first | rfl | simp, bgo⟩
end
end Go.Proofs.YtmommdhnogogdaaDoor

namespace Go.Proofs.YtmommdhnogogdaaDoor
open Go.RowKit
theorem rqE_turn (n d : Int) (N D : Nat) : rqE n (swD d) N D = rqE n d N D := by
  unfold rqE
  have h : knB (swD d) ↔ knB d := by
    unfold knB swD
    split <;> omega
  simp only [h]
theorem rq_turn (n d x y : Int) (N D : Nat) (h : rqE n d N D = 0) : rqF n (swD d) true N D x = rqF n d false N D x ∧ (rqD n d false N D x y).s = false ∧ rqD n (swD d) true N D x y = ⟨(rqD n d false N D x y).c, true, (rqD n d false N D x y).g, (rqD n d false N D x y).x, (rqD n d false N D x y).k⟩ := by
  unfold rqD rqF
  rw [rqE_turn, if_pos h, if_pos h, if_pos h, if_pos h]
  by_cases hN : N = 0
  · rw [if_pos hN, if_pos hN, if_pos hN, if_pos hN]
    exact ⟨rfl, rfl, rfl⟩
  · rw [if_neg hN, if_neg hN, if_neg hN, if_neg hN]
    have := dk_turn (fD n) d false (N * 10 ^ (clT x).toNat) (D * 10 ^ (-(clT x)).toNat) (tnX (N * 10 ^ (clT x).toNat) (D * 10 ^ (-(clT x)).toNat)) y
    exact ⟨this.2.1, this.2.2, this.1⟩
attribute [local irreducible] W4 Nt
section
variable (TT : World → Prop) (hTT : ∀ w w', TT w → Below w.heap.size w w' → TT w')
variable (n d x y : Int) (an ad : Option Addr) (kn cn kd cd : Nat) (w : World) (hT : TT w)
  (c9 : ∀ W, TT W → Calls Tryd.prog 7 #[] W fun r w' => r = .returned (.bool true) ∧ Below W.heap.size W w')
include hTT hT c9
set_option maxHeartbeats 2000000 in
theorem turns15_ln (h : (100 : Int) < (kn : Int)) :
    Calls Tryd.prog 5 #[.int .i64 n, .int .i64 d, .slice an kn cn, .slice ad kd cd, .int .i64 x, .int .i64 y] w fun r w' => r = .returned (.bool true) ∧ Below w.heap.size w w' := by
  have hsm := cell_set_map
  go_enter Tryd.func5, Tryd.ntmps5
  go_wp2_with (first
    | (go_at_call 7; refine (c9 _ (hTT _ _ hT bgo)).mono ?_; rintro r w1 ⟨rfl, hb1⟩; obtain ⟨hc1, hf1⟩ := bcell hb1; have hA1 := bnext (w0 := w) bgo hb1; have hs1 := hA1.size; clear hb1)
    | (go_at_call 7; refine (c9 _ (hTT _ _ hT bgo)).mono ?_; rintro r w2 ⟨rfl, hb2⟩; obtain ⟨hc2, hf2⟩ := bcell hb2; have hA2 := bnext (w0 := w) bgo hb2; have hs2 := hA2.size; clear hb2))
  go_ret
  exact ⟨by first | rfl | simp, bgo⟩
set_option maxHeartbeats 2000000 in
theorem turns15_ld (h : ¬ (100 : Int) < (kn : Int)) (h' : (100 : Int) < (kd : Int)) :
    Calls Tryd.prog 5 #[.int .i64 n, .int .i64 d, .slice an kn cn, .slice ad kd cd, .int .i64 x, .int .i64 y] w fun r w' => r = .returned (.bool true) ∧ Below w.heap.size w w' := by
  have hsm := cell_set_map
  go_enter Tryd.func5, Tryd.ntmps5
  go_wp2_with (first
    | (go_at_call 7; refine (c9 _ (hTT _ _ hT bgo)).mono ?_; rintro r w1 ⟨rfl, hb1⟩; obtain ⟨hc1, hf1⟩ := bcell hb1; have hA1 := bnext (w0 := w) bgo hb1; have hs1 := hA1.size; clear hb1)
    | (go_at_call 7; refine (c9 _ (hTT _ _ hT bgo)).mono ?_; rintro r w2 ⟨rfl, hb2⟩; obtain ⟨hc2, hf2⟩ := bcell hb2; have hA2 := bnext (w0 := w) bgo hb2; have hs2 := hA2.size; clear hb2))
  go_ret
  exact ⟨by first | rfl | simp, bgo⟩
set_option maxHeartbeats 2000000 in
theorem turns15_3e (h : ¬ (100 : Int) < (kn : Int)) (h' : ¬ (100 : Int) < (kd : Int)) (vc vx : Int) (vg vs vs' : Bool) (vk : Nat) (F E : Int) (hd : d = 3) (hE : (E != 0) = true)
    (c10 : ∀ W, TT W → Below w.heap.size w W → Calls Tryd.prog 8 #[.int .i64 n, .int .i64 d, .bool false, .slice an kn cn, .slice ad kd cd, .int .i64 x, .int .i64 y] W fun r w' => r = .returned (.tuple #[DV vc vs vg vx vk, .int .i64 F, .int .i64 E]) ∧ Below W.heap.size W w')
    (c11 : ∀ W, TT W → Below w.heap.size w W → Calls Tryd.prog 8 #[.int .i64 n, .int .i64 4, .bool true, .slice an kn cn, .slice ad kd cd, .int .i64 x, .int .i64 y] W fun r w' => r = .returned (.tuple #[DV vc vs' vg vx vk, .int .i64 F, .int .i64 E]) ∧ Below W.heap.size W w') :
    Calls Tryd.prog 5 #[.int .i64 n, .int .i64 d, .slice an kn cn, .slice ad kd cd, .int .i64 x, .int .i64 y] w fun r w' => r = .returned (.bool true) ∧ Below w.heap.size w w' := by
  have hsm := cell_set_map
  subst hd
  unfold DV at *
  go_enter Tryd.func5, Tryd.ntmps5
  go_wp2_with (first
    | (go_at_call 7; refine (c9 _ (hTT _ _ hT bgo)).mono ?_; rintro r w1 ⟨rfl, hb1⟩; obtain ⟨hc1, hf1⟩ := bcell hb1; have hA1 := bnext (w0 := w) bgo hb1; have hs1 := hA1.size; clear hb1)
    | (go_at_call_of 8 (Value.bool false); refine (c10 _ (hTT _ _ hT bgo) bgo).mono ?_; rintro r w2 ⟨rfl, hb2⟩; clear c10; obtain ⟨hc2, hf2⟩ := bcell hb2; have hA2 := bnext (w0 := w) bgo hb2; have hs2 := hA2.size; clear hb2)
    | (go_at_call_of 8 (Value.bool true); refine (c11 _ (hTT _ _ hT bgo) bgo).mono ?_; rintro r w3 ⟨rfl, hb3⟩; obtain ⟨hc3, hf3⟩ := bcell hb3; have hz3_0 : w2.heap.size < w3.heap.size := lt_below hb3 ltg; have hl3_0 := Nat.le_of_lt hz3_0; have hA3 := bnext (w0 := w) bgo hb3; have hs3 := hA3.size; clear hb3))
  go_ret
  exact ⟨by first | rfl | simp, bgo⟩
set_option maxHeartbeats 2000000 in
theorem turns15_3k (h : ¬ (100 : Int) < (kn : Int)) (h' : ¬ (100 : Int) < (kd : Int)) (vc vx : Int) (vg vs vs' : Bool) (vk : Nat) (F E : Int) (hd : d = 3) (hE : E = 0)
    (c10 : ∀ W, TT W → Below w.heap.size w W → Calls Tryd.prog 8 #[.int .i64 n, .int .i64 d, .bool false, .slice an kn cn, .slice ad kd cd, .int .i64 x, .int .i64 y] W fun r w' => r = .returned (.tuple #[DV vc false vg vx vk, .int .i64 F, .int .i64 E]) ∧ Below W.heap.size W w')
    (c11 : ∀ W, TT W → Below w.heap.size w W → Calls Tryd.prog 8 #[.int .i64 n, .int .i64 4, .bool true, .slice an kn cn, .slice ad kd cd, .int .i64 x, .int .i64 y] W fun r w' => r = .returned (.tuple #[DV vc true vg vx vk, .int .i64 F, .int .i64 E]) ∧ Below W.heap.size W w') :
    Calls Tryd.prog 5 #[.int .i64 n, .int .i64 d, .slice an kn cn, .slice ad kd cd, .int .i64 x, .int .i64 y] w fun r w' => r = .returned (.bool true) ∧ Below w.heap.size w w' := by
  have hsm := cell_set_map
  have hQ := DV_same vc vx false vg vk
  subst hE
  subst hd
  unfold DV at *
  go_enter Tryd.func5, Tryd.ntmps5
  go_wp2_with (first
    | (go_at_call 7; refine (c9 _ (hTT _ _ hT bgo)).mono ?_; rintro r w1 ⟨rfl, hb1⟩; obtain ⟨hc1, hf1⟩ := bcell hb1; have hA1 := bnext (w0 := w) bgo hb1; have hs1 := hA1.size; clear hb1)
    | (go_at_call_of 8 (Value.bool false); refine (c10 _ (hTT _ _ hT bgo) bgo).mono ?_; rintro r w2 ⟨rfl, hb2⟩; clear c10; obtain ⟨hc2, hf2⟩ := bcell hb2; have hA2 := bnext (w0 := w) bgo hb2; have hs2 := hA2.size; clear hb2)
    | (go_at_call_of 8 (Value.bool true); refine (c11 _ (hTT _ _ hT bgo) bgo).mono ?_; rintro r w3 ⟨rfl, hb3⟩; obtain ⟨hc3, hf3⟩ := bcell hb3; have hz3_0 : w2.heap.size < w3.heap.size := lt_below hb3 ltg; have hl3_0 := Nat.le_of_lt hz3_0; have hA3 := bnext (w0 := w) bgo hb3; have hs3 := hA3.size; clear hb3))
  go_ret
  exact ⟨by first | rfl | simp, bgo⟩
set_option maxHeartbeats 2000000 in
theorem turns15_4e (h : ¬ (100 : Int) < (kn : Int)) (h' : ¬ (100 : Int) < (kd : Int)) (vc vx : Int) (vg vs vs' : Bool) (vk : Nat) (F E : Int) (hd : d = 4) (hE : (E != 0) = true)
    (c10 : ∀ W, TT W → Below w.heap.size w W → Calls Tryd.prog 8 #[.int .i64 n, .int .i64 d, .bool false, .slice an kn cn, .slice ad kd cd, .int .i64 x, .int .i64 y] W fun r w' => r = .returned (.tuple #[DV vc vs vg vx vk, .int .i64 F, .int .i64 E]) ∧ Below W.heap.size W w')
    (c11 : ∀ W, TT W → Below w.heap.size w W → Calls Tryd.prog 8 #[.int .i64 n, .int .i64 3, .bool true, .slice an kn cn, .slice ad kd cd, .int .i64 x, .int .i64 y] W fun r w' => r = .returned (.tuple #[DV vc vs' vg vx vk, .int .i64 F, .int .i64 E]) ∧ Below W.heap.size W w') :
    Calls Tryd.prog 5 #[.int .i64 n, .int .i64 d, .slice an kn cn, .slice ad kd cd, .int .i64 x, .int .i64 y] w fun r w' => r = .returned (.bool true) ∧ Below w.heap.size w w' := by
  have hsm := cell_set_map
  subst hd
  unfold DV at *
  go_enter Tryd.func5, Tryd.ntmps5
  go_wp2_with (first
    | (go_at_call 7; refine (c9 _ (hTT _ _ hT bgo)).mono ?_; rintro r w1 ⟨rfl, hb1⟩; obtain ⟨hc1, hf1⟩ := bcell hb1; have hA1 := bnext (w0 := w) bgo hb1; have hs1 := hA1.size; clear hb1)
    | (go_at_call_of 8 (Value.bool false); refine (c10 _ (hTT _ _ hT bgo) bgo).mono ?_; rintro r w2 ⟨rfl, hb2⟩; clear c10; obtain ⟨hc2, hf2⟩ := bcell hb2; have hA2 := bnext (w0 := w) bgo hb2; have hs2 := hA2.size; clear hb2)
    | (go_at_call_of 8 (Value.bool true); refine (c11 _ (hTT _ _ hT bgo) bgo).mono ?_; rintro r w3 ⟨rfl, hb3⟩; obtain ⟨hc3, hf3⟩ := bcell hb3; have hz3_0 : w2.heap.size < w3.heap.size := lt_below hb3 ltg; have hl3_0 := Nat.le_of_lt hz3_0; have hA3 := bnext (w0 := w) bgo hb3; have hs3 := hA3.size; clear hb3))
  go_ret
  exact ⟨by first | rfl | simp, bgo⟩
set_option maxHeartbeats 2000000 in
theorem turns15_4k (h : ¬ (100 : Int) < (kn : Int)) (h' : ¬ (100 : Int) < (kd : Int)) (vc vx : Int) (vg vs vs' : Bool) (vk : Nat) (F E : Int) (hd : d = 4) (hE : E = 0)
    (c10 : ∀ W, TT W → Below w.heap.size w W → Calls Tryd.prog 8 #[.int .i64 n, .int .i64 d, .bool false, .slice an kn cn, .slice ad kd cd, .int .i64 x, .int .i64 y] W fun r w' => r = .returned (.tuple #[DV vc false vg vx vk, .int .i64 F, .int .i64 E]) ∧ Below W.heap.size W w')
    (c11 : ∀ W, TT W → Below w.heap.size w W → Calls Tryd.prog 8 #[.int .i64 n, .int .i64 3, .bool true, .slice an kn cn, .slice ad kd cd, .int .i64 x, .int .i64 y] W fun r w' => r = .returned (.tuple #[DV vc true vg vx vk, .int .i64 F, .int .i64 E]) ∧ Below W.heap.size W w') :
    Calls Tryd.prog 5 #[.int .i64 n, .int .i64 d, .slice an kn cn, .slice ad kd cd, .int .i64 x, .int .i64 y] w fun r w' => r = .returned (.bool true) ∧ Below w.heap.size w w' := by
  have hsm := cell_set_map
  have hQ := DV_same vc vx false vg vk
  subst hE
  subst hd
  unfold DV at *
  go_enter Tryd.func5, Tryd.ntmps5
  go_wp2_with (first
    | (go_at_call 7; refine (c9 _ (hTT _ _ hT bgo)).mono ?_; rintro r w1 ⟨rfl, hb1⟩; obtain ⟨hc1, hf1⟩ := bcell hb1; have hA1 := bnext (w0 := w) bgo hb1; have hs1 := hA1.size; clear hb1)
    | (go_at_call_of 8 (Value.bool false); refine (c10 _ (hTT _ _ hT bgo) bgo).mono ?_; rintro r w2 ⟨rfl, hb2⟩; clear c10; obtain ⟨hc2, hf2⟩ := bcell hb2; have hA2 := bnext (w0 := w) bgo hb2; have hs2 := hA2.size; clear hb2)
    | (go_at_call_of 8 (Value.bool true); refine (c11 _ (hTT _ _ hT bgo) bgo).mono ?_; rintro r w3 ⟨rfl, hb3⟩; obtain ⟨hc3, hf3⟩ := bcell hb3; have hz3_0 : w2.heap.size < w3.heap.size := lt_below hb3 ltg; have hl3_0 := Nat.le_of_lt hz3_0; have hA3 := bnext (w0 := w) bgo hb3; have hs3 := hA3.size; clear hb3))
  go_ret
  exact ⟨by first | rfl | simp, bgo⟩
set_option maxHeartbeats 2000000 in
theorem turns15_oe (h : ¬ (100 : Int) < (kn : Int)) (h' : ¬ (100 : Int) < (kd : Int)) (vc vx : Int) (vg vs vs' : Bool) (vk : Nat) (F E : Int) (h3 : (d == 3) = false) (h4 : (d == 4) = false) (hE : (E != 0) = true)
    (c10 : ∀ W, TT W → Below w.heap.size w W → Calls Tryd.prog 8 #[.int .i64 n, .int .i64 d, .bool false, .slice an kn cn, .slice ad kd cd, .int .i64 x, .int .i64 y] W fun r w' => r = .returned (.tuple #[DV vc vs vg vx vk, .int .i64 F, .int .i64 E]) ∧ Below W.heap.size W w')
    (c11 : ∀ W, TT W → Below w.heap.size w W → Calls Tryd.prog 8 #[.int .i64 n, .int .i64 d, .bool true, .slice an kn cn, .slice ad kd cd, .int .i64 x, .int .i64 y] W fun r w' => r = .returned (.tuple #[DV vc vs' vg vx vk, .int .i64 F, .int .i64 E]) ∧ Below W.heap.size W w') :
    Calls Tryd.prog 5 #[.int .i64 n, .int .i64 d, .slice an kn cn, .slice ad kd cd, .int .i64 x, .int .i64 y] w fun r w' => r = .returned (.bool true) ∧ Below w.heap.size w w' := by
  have hsm := cell_set_map
  unfold DV at *
  go_enter Tryd.func5, Tryd.ntmps5
  go_wp2_with (first
    | (go_at_call 7; refine (c9 _ (hTT _ _ hT bgo)).mono ?_; rintro r w1 ⟨rfl, hb1⟩; obtain ⟨hc1, hf1⟩ := bcell hb1; have hA1 := bnext (w0 := w) bgo hb1; have hs1 := hA1.size; clear hb1)
    | (go_at_call_of 8 (Value.bool false); refine (c10 _ (hTT _ _ hT bgo) bgo).mono ?_; rintro r w2 ⟨rfl, hb2⟩; clear c10; obtain ⟨hc2, hf2⟩ := bcell hb2; have hA2 := bnext (w0 := w) bgo hb2; have hs2 := hA2.size; clear hb2)
    | (go_at_call_of 8 (Value.bool true); refine (c11 _ (hTT _ _ hT bgo) bgo).mono ?_; rintro r w3 ⟨rfl, hb3⟩; obtain ⟨hc3, hf3⟩ := bcell hb3; have hz3_0 : w2.heap.size < w3.heap.size := lt_below hb3 ltg; have hl3_0 := Nat.le_of_lt hz3_0; have hA3 := bnext (w0 := w) bgo hb3; have hs3 := hA3.size; clear hb3))
  go_ret
  exact ⟨by first | rfl | simp, bgo⟩
set_option maxHeartbeats 2000000 in
theorem turns15_ok (h : ¬ (100 : Int) < (kn : Int)) (h' : ¬ (100 : Int) < (kd : Int)) (vc vx : Int) (vg vs vs' : Bool) (vk : Nat) (F E : Int) (h3 : (d == 3) = false) (h4 : (d == 4) = false) (hE : E = 0)
    (c10 : ∀ W, TT W → Below w.heap.size w W → Calls Tryd.prog 8 #[.int .i64 n, .int .i64 d, .bool false, .slice an kn cn, .slice ad kd cd, .int .i64 x, .int .i64 y] W fun r w' => r = .returned (.tuple #[DV vc false vg vx vk, .int .i64 F, .int .i64 E]) ∧ Below W.heap.size W w')
    (c11 : ∀ W, TT W → Below w.heap.size w W → Calls Tryd.prog 8 #[.int .i64 n, .int .i64 d, .bool true, .slice an kn cn, .slice ad kd cd, .int .i64 x, .int .i64 y] W fun r w' => r = .returned (.tuple #[DV vc true vg vx vk, .int .i64 F, .int .i64 E]) ∧ Below W.heap.size W w') :
    Calls Tryd.prog 5 #[.int .i64 n, .int .i64 d, .slice an kn cn, .slice ad kd cd, .int .i64 x, .int .i64 y] w fun r w' => r = .returned (.bool true) ∧ Below w.heap.size w w' := by
  have hsm := cell_set_map
  have hQ := DV_same vc vx false vg vk
  subst hE
  unfold DV at *
  go_enter Tryd.func5, Tryd.ntmps5
  go_wp2_with (first
    | (go_at_call 7; refine (c9 _ (hTT _ _ hT bgo)).mono ?_; rintro r w1 ⟨rfl, hb1⟩; obtain ⟨hc1, hf1⟩ := bcell hb1; have hA1 := bnext (w0 := w) bgo hb1; have hs1 := hA1.size; clear hb1)
    | (go_at_call_of 8 (Value.bool false); refine (c10 _ (hTT _ _ hT bgo) bgo).mono ?_; rintro r w2 ⟨rfl, hb2⟩; clear c10; obtain ⟨hc2, hf2⟩ := bcell hb2; have hA2 := bnext (w0 := w) bgo hb2; have hs2 := hA2.size; clear hb2)
    | (go_at_call_of 8 (Value.bool true); refine (c11 _ (hTT _ _ hT bgo) bgo).mono ?_; rintro r w3 ⟨rfl, hb3⟩; obtain ⟨hc3, hf3⟩ := bcell hb3; have hz3_0 : w2.heap.size < w3.heap.size := lt_below hb3 ltg; have hl3_0 := Nat.le_of_lt hz3_0; have hA3 := bnext (w0 := w) bgo hb3; have hs3 := hA3.size; clear hb3))
  go_ret
  exact ⟨by first | rfl | simp, bgo⟩
end
end Go.Proofs.YtmommdhnogogdaaDoor

namespace Go.Proofs.YtmommdhnogogdaaDoor
open Go.RowKit
/-- a word of the program's integers -/
def i6 (x : Int) : Prop := -9223372036854775808 ≤ x ∧ x ≤ 9223372036854775807
/-- what the package's calls answer, in a class of worlds -/
structure DrdC (TT : World → Prop) : Prop where
  next : ∀ w w', TT w → Below w.heap.size w w' → TT w'
  dec : ∀ n d x y s N D vn vd W, i6 n → i6 d → i6 x → i6 y → TT W → Nt 2001 N vn W → Nt 2001 D vd W → Calls Tryd.prog 8 #[.int .i64 n, .int .i64 d, .bool s, vn, vd, .int .i64 x, .int .i64 y] W fun r w' => r = .returned (.tuple #[(rqD n d s N D x y).v, .int .i64 (rqF n d s N D x), .int .i64 (rqE n d N D)]) ∧ Below W.heap.size W w'
theorem nt_fit {K V : Nat} {a : Option Addr} {k c : Nat} {w : World} {K' : Nat} (h : Nt K V (.slice a k c) w) (hk : k ≤ K') : Nt K' V (.slice a k c) w := by
  obtain ⟨a', k', c', z, e, h2, h3, h4⟩ := h
  injection e with e1 e2 e3
  subst e1 e2 e3
  exact ⟨_, _, _, z, rfl, hk, h3, h4⟩
theorem DrdC.awk {TT : World → Prop} (h : DrdC TT) (W : World) (hT : TT W) : Calls Tryd.prog 7 #[] W fun r w' => r = .returned (.bool true) ∧ Below W.heap.size W w' :=
  awake15 TT h.next W hT fun W vn vd hT' h1 h2 => h.dec 7 0 0 0 false 1 3 vn vd W (by unfold i6; omega) (by unfold i6; omega) (by unfold i6; omega) (by unfold i6; omega) hT' h1 h2
theorem num_Nt {w : World} {a : Option Addr} {k c : Nat} {z : Nat → Int} (h : Num w a k c z) (hk : k ≤ 2001) : Nt 2001 (val z k).toNat (.slice a k c) w :=
  ⟨a, k, c, z, rfl, hk, h, by have := (val_bd h.2.2.1 k).1; omega⟩
theorem decimal15_v {TT : World → Prop} (h : DrdC TT) (n d x y : Int) (s : Bool) (an ad : Option Addr) (kn cn kd cd : Nat) (zn zd : Nat → Int) (w : World) (hT : TT w) (i1 : i6 n) (i2 : i6 d) (i3 : i6 x) (i4 : i6 y) (hn : Num w an kn cn zn) (hd : Num w ad kd cd zd) :
    Calls Tryd.prog 3 #[.int .i64 n, .int .i64 d, .bool s, .slice an kn cn, .slice ad kd cd, .agg #[.int .i64 x, .int .i64 y]] w fun r w' => r = .returned (.bool true) ∧ Below w.heap.size w w' := by
  by_cases h1 : (600 : Int) < (kn : Int)
  · exact decimal15_ln TT h.next n d x y s an ad kn cn kd cd w hT h.awk h1
  · by_cases h2 : (600 : Int) < (kd : Int)
    · exact decimal15_ld TT h.next n d x y s an ad kn cn kd cd w hT h.awk h1 h2
    · exact decimal15_k TT h.next n d x y s an ad kn cn kd cd w hT h.awk h1 h2 _ _ _ _ _ _ _ (fun W hW hB => h.dec n d x y s _ _ _ _ W i1 i2 i3 i4 hW (num_Nt (hn.next hB) (by omega)) (num_Nt (hd.next hB) (by omega))) (fun W hB => rd15_any n d x y s (num_Nt (hn.next hB) (by omega)) (num_Nt (hd.next hB) (by omega)))
theorem turns15_v {TT : World → Prop} (h : DrdC TT) (n d x y : Int) (an ad : Option Addr) (kn cn kd cd : Nat) (zn zd : Nat → Int) (w : World) (hT : TT w) (i1 : i6 n) (i2 : i6 d) (i3 : i6 x) (i4 : i6 y) (hn : Num w an kn cn zn) (hd : Num w ad kd cd zd) :
    Calls Tryd.prog 5 #[.int .i64 n, .int .i64 d, .slice an kn cn, .slice ad kd cd, .int .i64 x, .int .i64 y] w fun r w' => r = .returned (.bool true) ∧ Below w.heap.size w w' := by
  by_cases h1 : (100 : Int) < (kn : Int)
  · exact turns15_ln TT h.next n d x y an ad kn cn kd cd w hT h.awk h1
  · by_cases h2 : (100 : Int) < (kd : Int)
    · exact turns15_ld TT h.next n d x y an ad kn cn kd cd w hT h.awk h1 h2
    · have i5 : i6 (swD d) := by unfold i6 swD at *; split <;> omega
      have c10 : ∀ W, TT W → Below w.heap.size w W → _ := fun W hW hB => h.dec n d x y false _ _ _ _ W i1 i2 i3 i4 hW (num_Nt (hn.next hB) (by omega)) (num_Nt (hd.next hB) (by omega))
      have c11 : ∀ W, TT W → Below w.heap.size w W → _ := fun W hW hB => h.dec n (swD d) x y true _ _ _ _ W i1 i5 i3 i4 hW (num_Nt (hn.next hB) (by omega)) (num_Nt (hd.next hB) (by omega))
      generalize (val zn kn).toNat = N at c10 c11
      generalize (val zd kd).toNat = D at c10 c11
      rw [rqE_turn] at c11
      by_cases hE : rqE n d N D = 0
      · obtain ⟨t1, t2, t3⟩ := rq_turn n d x y N D hE
        rw [t1, t3] at c11
        unfold Dat.v at c10 c11
        rw [t2] at c10
        by_cases d3 : d = 3
        · subst d3
          exact turns15_3k TT h.next n 3 x y an ad kn cn kd cd w hT h.awk h1 h2 _ _ _ false false _ _ _ rfl hE c10 c11
        · by_cases d4 : d = 4
          · subst d4
            exact turns15_4k TT h.next n 4 x y an ad kn cn kd cd w hT h.awk h1 h2 _ _ _ false false _ _ _ rfl hE c10 c11
          · rw [show swD d = d from if_neg (by omega)] at c11
            exact turns15_ok TT h.next n d x y an ad kn cn kd cd w hT h.awk h1 h2 _ _ _ false false _ _ _ (by simpa using d3) (by simpa using d4) hE c10 c11
      · have hb : (rqE n d N D != 0) = true := by simpa using hE
        obtain ⟨q1, q2⟩ := rq_not (s := false) (x := x) (y := y) hE
        obtain ⟨q3, q4⟩ := rq_not (n := n) (d := swD d) (s := true) (x := x) (y := y) (N := N) (D := D) (by rw [rqE_turn]; exact hE)
        rw [q1, q2, ← DV_zero 0 false false 0] at c10
        rw [q3, q4, ← DV_zero 0 false false 0] at c11
        by_cases d3 : d = 3
        · subst d3
          exact turns15_3e TT h.next n 3 x y an ad kn cn kd cd w hT h.awk h1 h2 _ _ _ _ _ _ _ _ rfl hb c10 c11
        · by_cases d4 : d = 4
          · subst d4
            exact turns15_4e TT h.next n 4 x y an ad kn cn kd cd w hT h.awk h1 h2 _ _ _ _ _ _ _ _ rfl hb c10 c11
          · rw [show swD d = d from if_neg (by omega)] at c11
            exact turns15_oe TT h.next n d x y an ad kn cn kd cd w hT h.awk h1 h2 _ _ _ _ _ _ _ _ (by simpa using d3) (by simpa using d4) hb c10 c11
end Go.Proofs.YtmommdhnogogdaaDoor
