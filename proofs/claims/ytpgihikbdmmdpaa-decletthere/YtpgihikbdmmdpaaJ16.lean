/-
  Texts that the proof leans on, joined: Oa, Ru, Mt, Rw, Oq, Ot, Do, Kn.
-/
import Derived.Test.YtpgihikbdmmdpaaJ15
import Derived.Test.YtpgihikbdmmdpaaJ12
import Derived.Test.YtpgihikbdmmdpaaJ8
import Derived.Test.YtpgihikbdmmdpaaJ13
set_option linter.unusedVariables false
set_option linter.unusedSectionVars false
set_option linter.unusedSimpArgs false
set_option maxRecDepth 20000
namespace Go.Proofs.Ytpgihikbdmmdpaa
open Go.RowKit

section
variable {P : Program} {ops : Array Oper} {Q : Exit → Act → World → Prop} {md : Region.Mode}
theorem wpAny_inv0 {B : Act → World → Prop} {R : Nat → Act → World → Prop} (hb : backB md ops ops.size = true)
    (hstep : ∀ i o a w, ops[i]? = some o → B a w → (∀ e ∈ o.after, Region.binds md e = true → R e.on a w) → wpOp P ops Q i (fun a' w' => B a' w' ∧ R i a' w' ∧ ∀ j, j < ops.size → j ≠ i → R j a w → R j a' w') a w)
    (hend : ∀ a w, B a w → (∀ i, i < ops.size → R i a w) → Q .normal a w) :
    ∀ (f : Nat) (listed : Array Bool) (a : Act) (w : World), listed.size = ops.size → toCome listed ops.size = f → B a w → (∀ i, i < ops.size → listed.getD i false = true → R i a w) → wpAny P md ops Q f listed a w
  | 0, listed, a, w, hsz, hf, hB, hR => by
    have hz := toCome_zero ops.size hf
    refine ⟨?_, hend a w hB fun i hi => hR i hi (getD_true_in (by rw [hsz]; exact hi) (hz i hi))⟩
    refine List.eq_nil_iff_forall_not_mem.2 fun j hj => ?_
    obtain ⟨hu, o, ho, _⟩ := mem_ready.1 hj
    have hlt : j < ops.size := (Array.getElem?_eq_some_iff.1 ho).1
    rw [hz j hlt] at hu; cases hu
  | f + 1, listed, a, w, hsz, hf, hB, hR => by
    obtain ⟨k, hk, hku, hkl⟩ := toCome_least (listed := listed) ops.size (by omega)
    refine ⟨fun h0 => ?_, fun i hi => ?_⟩
    · obtain ⟨o, ho, hlt⟩ := backB_spec hb k hk
      have : k ∈ Region.ready md ops listed := mem_ready.2 ⟨hku, o, ho, fun e he hbd => by
        have := hlt e he hbd
        exact getD_true_in (by rw [hsz]; omega) (hkl _ this)⟩
      rw [h0] at this; cases this
    · obtain ⟨hu, o, ho, hall⟩ := mem_ready.1 hi
      have hin : i < ops.size := (Array.getElem?_eq_some_iff.1 ho).1
      obtain ⟨o', ho', hlt⟩ := backB_spec hb i hin
      obtain rfl : o' = o := Option.some.inj (ho'.symm.trans ho)
      refine wpOp_mono (fun a' w' h3 => ?_) (hstep i o' a w ho hB fun e he hbd => hR _ (by have := hlt e he hbd; omega) (hall e he hbd))
      refine wpAny_inv0 hb hstep hend f _ a' w' (by simp [hsz]) (by have := toCome_set hu ops.size hin; omega) h3.1 fun j hj hl => ?_
      by_cases e : j = i
      · subst e; exact h3.2.1
      · rw [getD_set_ne false (fun h => e h.symm)] at hl
        exact h3.2.2 j hj e (hR j hj hl)

/-- wp_region_gvals, of a region all of whose operations leave a value -/
theorem wp_region_gall (m : Nat) (D : List Nat) (S : List (Value → World → Prop)) (C : World → Prop) {id : Nat} {l : List Oper} {a0 : Act} {w0 : World} (hm : P.follows .mixedOrders = true) (hI : backB .any l.toArray l.length = true) (hD : dstG l D l.length m = true) (hGd : gdB l l.length = true)
    (hsz : a0.tmps.size = m) (hS : ∀ p ∈ S, Stays p) (hC0 : C w0.drew) (hCn : ∀ w w', C w → Below w.heap.size w w' → C w')
    (hGv : ∀ i o j b, i < l.length → l[i]? = some o → o.guard = some (j, b) → ∀ v w, (S.getD j fun _ _ => True) v w → v = .bool b)
    (hstep : ∀ i o a w, i < l.length → l[i]? = some o → C w → (∀ t, (∀ i, i < l.length → D.getD i 0 ≠ t) → slot a t = slot a0 t) → (∀ e ∈ o.after, Region.binds .any e = true → (S.getD e.on fun _ _ => True) (slot a (D.getD e.on 0)) w) →
      o.wp P a w (fun a' w' => ∃ v, a' = a.put o.dst v ∧ (S.getD i fun _ _ => True) v w' ∧ Below w.heap.size w w') Q)
    (hend : ∀ a w, C w → a.tmps.size = m → a.defers = a0.defers → (∀ t, (∀ i, i < l.length → D.getD i 0 ≠ t) → slot a t = slot a0 t) → (∀ i, i < l.length → (S.getD i fun _ _ => True) (slot a (D.getD i 0)) w) → Q .normal a w) :
    (Code.region id l.toArray true).wp P Q a0 w0 := by
  have hSt : ∀ i, Stays (S.getD i fun _ _ => True) := by
    intro i
    rcases Nat.lt_or_ge i S.length with h | h
    · rw [List.getD_eq_getElem?_getD, List.getElem?_eq_getElem h]; exact hS _ (List.getElem_mem h)
    · rw [List.getD_eq_getElem?_getD, List.getElem?_eq_none h]; exact fun _ _ _ _ _ => trivial
  have hsl : l.toArray.size = l.length := by simp
  refine wp_region_any hm ?_
  have H := wpAny_inv0 (P := P) (Q := Q) (md := .any) (ops := l.toArray) (B := fun a w => C w ∧ a.tmps.size = m ∧ a.defers = a0.defers ∧ ∀ t, (∀ i, i < l.length → D.getD i 0 ≠ t) → slot a t = slot a0 t)
    (R := fun i a w => (S.getD i fun _ _ => True) (slot a (D.getD i 0)) w) (by rw [hsl]; exact hI) ?_ (fun a w h hR => hend a w h.1 h.2.1 h.2.2.1 h.2.2.2 (fun i hi => hR i (by rw [hsl]; exact hi))) l.toArray.size (Array.replicate l.toArray.size false) a0 w0.drew (by simp) (toCome_replicate _ _ (Nat.le_refl _)) ⟨hC0, hsz, rfl, fun _ _ => rfl⟩ (fun i hi hl => by rw [getD_replicate_false] at hl; cases hl)
  · exact H
  intro i o a w ho0 hB hR
  have ho : l[i]? = some o := by simpa using ho0
  have hi : i < l.length := (List.getElem?_eq_some_iff.1 ho).1
  obtain ⟨o', ho2, hd, hlt, hne⟩ := dstG_spec hD i hi
  have eo : o' = o := Option.some.inj (ho2.symm.trans ho)
  subst eo
  have hw := hstep i o' a w hi ho hB.1 hB.2.2.2 hR
  unfold wpOp
  simp only [ho0]
  have hwant : Region.wanted o' (yielded l.toArray a.tmps) = true := by
    unfold Region.wanted
    cases hg : o'.guard with
    | none => rfl
    | some q =>
      obtain ⟨j, b⟩ := q
      obtain ⟨hj, e, he, hbd, hej⟩ := gdB_spec hGd i hi o' ho j b hg
      have hv := hR e he hbd
      rw [hej] at hv
      have hv2 := hGv i o' j b hi ho hg _ _ hv
      obtain ⟨oj, hoj, hdj, hltj, _⟩ := dstG_spec hD j hj
      have hoj' : l.toArray[j]? = some oj := by simpa using hoj
      have hs : D.getD j 0 < a.tmps.size := by rw [hB.2.1]; exact hltj
      have ht : a.tmps[D.getD j 0]? = some (.bool b) := by
        have h5 : a.tmps[D.getD j 0]? = some a.tmps[D.getD j 0] := Array.getElem?_eq_getElem hs
        have h6 : slot a (D.getD j 0) = a.tmps[D.getD j 0] := by unfold slot; rw [h5]; rfl
        rw [h5, ← h6, hv2]
      have hy : yielded l.toArray a.tmps j = some b := by
        unfold yielded
        simp only [hoj', Option.bind_some, hdj, ht]
      simp [hy]
  rw [if_pos hwant]
  refine Or.inl (Oper.wp_mono ?_ hw)
  rintro a' w' ⟨v, rfl, hv, hb⟩
  rw [hd]
  refine ⟨⟨hCn _ _ hB.1 hb, by simp [Act.put, hB.2.1], hB.2.2.1, fun t ht => ?_⟩, ?_, fun j hj hji hRj => ?_⟩
  · rw [slot_put_ne (ht i hi)]; exact hB.2.2.2 t ht
  · show (S.getD i fun _ _ => True) (slot (a.put (some (D.getD i 0)) v) (D.getD i 0)) w'
    rw [slot_put (by rw [hB.2.1]; exact hlt)]; exact hv
  · show (S.getD j fun _ _ => True) (slot (a.put (some (D.getD i 0)) v) (D.getD j 0)) w'
    rw [slot_put_ne (fun h => hne j (by rw [← hsl]; exact hj) hji h.symm)]
    exact hSt j _ _ _ hRj hb
/-- this value -/
def isV (u : Value) : Value → World → Prop := fun v _ => v = u
theorem isV.stays (u : Value) : Stays (isV u) := fun v w w' h _ => h
end
end Go.Proofs.Ytpgihikbdmmdpaa

namespace Go.Proofs.Ytpgihikbdmmdpaa
open Go.RowKit

theorem NT.stays (K V : Nat) : Stays (NT K V) := fun v w w' h hb => h.next hb
section
variable {a : Act} {w : World} {K : Act → World → Prop} {Q : Exit → Act → World → Prop} {d p q r : Nat} {ty : TypeId} {pos : String} {after : Array Edge} {gd : Option (Nat × Bool)}
end
end Go.Proofs.Ytpgihikbdmmdpaa

namespace Go.Proofs.Ytpgihikbdmmdpaa

/-- what a pattern means, by its fields -/
def mean (f e : Nat) (l : Int) (S E F : Nat) : Dat :=
  if E = 2 ^ e - 1 then spc f (decide (S = 1)) F else if E = 0 then ⟨1, decide (S = 1), false, l, F⟩ else ⟨1, decide (S = 1), false, l + ((E : Int) - 1), F + 2 ^ f⟩
end Go.Proofs.Ytpgihikbdmmdpaa

namespace Go.Proofs.Ytpgihikbdmmdpaa
open Go.RowKit

theorem puts_slot (a : Act) : ∀ (D : List Nat) (b : Act), (D.foldl (fun b d => b.put (some d) (slot a d)) b).tmps.size = b.tmps.size ∧ (D.foldl (fun b d => b.put (some d) (slot a d)) b).defers = b.defers ∧ ∀ t, t < b.tmps.size → slot (D.foldl (fun b d => b.put (some d) (slot a d)) b) t = if t ∈ D then slot a t else slot b t
  | [], b => ⟨rfl, rfl, fun t ht => by simp⟩
  | d :: D, b => by
    obtain ⟨h1, h2, h3⟩ := puts_slot a D (b.put (some d) (slot a d))
    have hs : (b.put (some d) (slot a d)).tmps.size = b.tmps.size := by simp [Act.put]
    refine ⟨h1.trans hs, h2, fun t ht => ?_⟩
    rw [List.foldl_cons, h3 t (by rw [hs]; exact ht)]
    by_cases hD : t ∈ D
    · rw [if_pos hD, if_pos (List.mem_cons_of_mem _ hD)]
    · rw [if_neg hD]
      by_cases hd : t = d
      · subst hd
        rw [if_pos List.mem_cons_self, slot_put ht]
      · rw [if_neg (by simp [hd, hD]), slot_put_ne (fun h => hd h.symm)]
theorem act_of {a a0 : Act} (D : List Nat) (n : Nat) (hn : D.length = n) (hsz : a.tmps.size = a0.tmps.size) (hdf : a.defers = a0.defers) (hF : ∀ t, (∀ i, i < n → D.getD i 0 ≠ t) → slot a t = slot a0 t) :
    a = D.foldl (fun b d => b.put (some d) (slot a d)) a0 := by
  obtain ⟨h1, h2, h3⟩ := puts_slot a D a0
  generalize D.foldl (fun b d => b.put (some d) (slot a d)) a0 = b at *
  have key : ∀ t, t < a0.tmps.size → slot a t = slot b t := fun t ht => by
    rw [h3 t ht]
    by_cases hD : t ∈ D
    · rw [if_pos hD]
    · rw [if_neg hD]
      refine hF t fun i hi e => hD ?_
      rw [← e, List.getD_eq_getElem?_getD, List.getElem?_eq_getElem (by omega)]
      exact List.getElem_mem _
  have ht : a.tmps = b.tmps := by
    apply Array.ext (by omega)
    intro i h4 h5
    have := key i (by omega)
    unfold slot at this
    rw [Array.getElem?_eq_getElem h4, Array.getElem?_eq_getElem h5] at this
    exact this
  cases a; cases b
  simp only at ht hdf h2 ⊢
  rw [ht, hdf, h2]

attribute [local irreducible] W4 NT NV
end Go.Proofs.Ytpgihikbdmmdpaa

namespace Go.Proofs.Ytpgihikbdmmdpaa
open Go.RowKit

/-- a region's operations, by its number -/
def findR (n : Nat) : Code → Option (List Oper)
  | .region i o _ => if i = n then some o.toList else none
  | .seq a b => match findR n a with | some l => some l | none => findR n b
  | .cond _ a b => match findR n a with | some l => some l | none => findR n b
  | .block _ c => findR n c
  | .loop c => findR n c
  | _ => none
section
variable {P : Program} {a : Act} {w : World} {K : Act → World → Prop} {Q : Exit → Act → World → Prop} {d p q : Nat} {ty : TypeId} {pos : String} {after : Array Edge} {gd : Option (Nat × Bool)}
theorem og_mv {v : Value} (h1 : slot a p = v) (hK : K (a.put (some d) v) w) : Oper.wp P { dst := some d, op := Op.move (Operand.tmp p), type := ty, pos := pos, after := after, guard := gd } a w K Q := by
  unfold slot at h1
  simp [go_sem, h1]
  exact hK
theorem og_as {v : Value} (h1 : slot a p = v) (hK : K (a.put (some d) v) w) : Oper.wp P { dst := some d, op := Op.assign (Operand.tmp p), type := ty, pos := pos, after := after, guard := gd } a w K Q := by
  unfold slot at h1
  simp [go_sem, h1]
  exact hK
theorem og_pow {p1 : Nat} {u0 u1 : Value} {ts : Array TypeId} (h1 : slot a p1 = u1) (hc : Calls Try.prog 20 #[u0, u1] w fun e w' => ∃ v, e = .returned v ∧ K (a.put (some d) v) w') : Oper.wp Try.prog { dst := some d, op := Op.call { callee := Callee.value (Operand.func 20), args := #[Operand.const u0, Operand.tmp p1], argTypes := ts }, type := ty, pos := pos, after := after, guard := gd } a w K Q := by
  unfold slot at h1
  simp [go_sem, h1]
  refine hc.mono ?_
  rintro e w' ⟨v, rfl, hK⟩
  exact hK
theorem eqB_run {X Y : Nat} (hX : X < 2 ^ 256) (hY : Y < 2 ^ 256) (w : World) : Sem.run Try.prog (Op.equalIn 10000 32 (A4 X) (A4 Y)) w = .ok (decide (X = Y)) w := by
  have := eq24 (W4 X 0) (W4 X 1) (W4 X 2) (W4 X 3) (W4 Y 0) (W4 Y 1) (W4 Y 2) (W4 Y 3) w
  rw [show decide (W4 X 0 = W4 Y 0 ∧ W4 X 1 = W4 Y 1 ∧ W4 X 2 = W4 Y 2 ∧ W4 X 3 = W4 Y 3) = decide (X = Y) from ?_] at this
  · exact this
  · by_cases h : X = Y
    · subst h
      rw [decide_eq_true ⟨rfl, rfl, rfl, rfl⟩, decide_eq_true rfl]
    · rw [decide_eq_false h, decide_eq_false]
      rintro ⟨h0, h1, h2, h3⟩
      refine h (A4_inj hX hY fun i hi => ?_)
      have : i = 0 ∨ i = 1 ∨ i = 2 ∨ i = 3 := by omega
      rcases this with rfl | rfl | rfl | rfl
      · exact h0
      · exact h1
      · exact h2
      · exact h3
theorem og_eqB {X Y : Nat} {b : Bool} (hX : X < 2 ^ 256) (hY : Y < 2 ^ 256) (hb : decide (X = Y) = b) (h1 : slot a p = A4 X) (h2 : slot a q = A4 Y) (hK : K (a.put (some d) (.bool b)) w) : Oper.wp Try.prog { dst := some d, op := Op.binOp BinOp.eql 32 (Operand.tmp p) (Operand.tmp q) 32, type := ty, pos := pos, after := after, guard := gd } a w K Q := by
  have e := eqB_run hX hY w
  rw [hb] at e
  unfold slot at h1 h2
  unfold A4 at h1 h2 e
  simp [go_sem, h1, h2, e]
  exact hK
theorem og_ldB {g i X : Nat} (h1 : slot a p = .pointer (some ⟨g, i, none⟩)) (c0 : w.cell? ⟨g, i, none⟩ = some (.int .u64 (W4 X 0))) (c1 : w.cell? ⟨g, i + 1, none⟩ = some (.int .u64 (W4 X 1))) (c2 : w.cell? ⟨g, i + 2, none⟩ = some (.int .u64 (W4 X 2))) (c3 : w.cell? ⟨g, i + 3, none⟩ = some (.int .u64 (W4 X 3))) (hK : K (a.put (some d) (A4 X)) w) : Oper.wp Try.prog { dst := some d, op := Op.load 32 (Operand.tmp p), type := ty, pos := pos, after := after, guard := gd } a w K Q := by
  unfold slot at h1
  simp [go_sem, h1, c0, c1, c2, c3]
  exact hK
theorem og_slB {g : Nat} (h1 : slot a p = .pointer (some ⟨g, 0, none⟩)) (hK : K (a.put (some d) (.slice (some ⟨g, 0, none⟩) 4 4)) w) : Oper.wp Try.prog { dst := some d, op := Op.slice 32 (Operand.tmp p) none none none, type := ty, pos := pos, after := after, guard := gd } a w K Q := by
  unfold slot at h1
  simp [go_sem, h1]
  exact hK
theorem og_pkT {o2 : Operand} {v : Value} (h1 : slot a p = .bool true) (h2 : slot a q = v) (hK : K (a.put (some d) v) w) : Oper.wp P { dst := some d, op := Op.pick (Operand.tmp p) (Operand.tmp q) o2, type := ty, pos := pos, after := after, guard := gd } a w K Q := by
  unfold slot at h1 h2
  simp [go_sem, h1, h2]
  exact hK
theorem og_pkF {o1 : Operand} {v : Value} (h1 : slot a p = .bool false) (h2 : slot a q = v) (hK : K (a.put (some d) v) w) : Oper.wp P { dst := some d, op := Op.pick (Operand.tmp p) o1 (Operand.tmp q), type := ty, pos := pos, after := after, guard := gd } a w K Q := by
  unfold slot at h1 h2
  simp [go_sem, h1, h2]
  exact hK
theorem og_gt3 {x c : Int} {b : Bool} (h1 : slot a p = .int .i64 x) (hb : decide (c < x) = b) (hK : K (a.put (some d) (.bool b)) w) : Oper.wp Try.prog { dst := some d, op := Op.binOp BinOp.gtr 3 (Operand.tmp p) (Operand.const (.int .i64 c)) 3, type := ty, pos := pos, after := after, guard := gd } a w K Q := by
  unfold slot at h1
  simp [go_sem, h1, hb]
  exact hK
theorem og_bldB (hK : K (a.put (some d) (A4 0)) w) : Oper.wp Try.prog { dst := some d, op := Op.build 32 #[], type := ty, pos := pos, after := after, guard := gd } a w K Q := by
  simp [go_sem]
  have e : A4 0 = .agg #[.int .u64 0, .int .u64 0, .int .u64 0, .int .u64 0] := by unfold A4; simp [W4_zero]
  rw [e] at hK
  exact hK
end
end Go.Proofs.Ytpgihikbdmmdpaa

namespace Go.Proofs.Ytpgihikbdmmdpaa
open Go.RowKit

section
variable {a : Act} {w : World} {K : Act → World → Prop} {Q : Exit → Act → World → Prop} {d p : Nat} {ty : TypeId} {pos : String} {after : Array Edge} {gd : Option (Nat × Bool)}
theorem og_c2 {F : Nat} {p0 p1 : Nat} {u0 u1 : Value} {ts : Array TypeId} (hr : Sem.run Try.prog (callFunc F #[u0, u1]) w = .ok (.enter F #[u0, u1]) w) (h0 : slot a p0 = u0) (h1 : slot a p1 = u1) (hc : Calls Try.prog F #[u0, u1] w fun e w' => ∃ v, e = .returned v ∧ K (a.put (some d) v) w') : Oper.wp Try.prog { dst := some d, op := Op.call { callee := Callee.value (Operand.func F), args := #[Operand.tmp p0, Operand.tmp p1], argTypes := ts }, type := ty, pos := pos, after := after, guard := gd } a w K Q := by
  unfold slot at h0 h1
  simp [go_sem, h0, h1, hr]
  refine hc.mono ?_
  rintro e w' ⟨v, rfl, hK⟩
  exact hK
end
end Go.Proofs.Ytpgihikbdmmdpaa

namespace Go.Proofs.Ytpgihikbdmmdpaa
open Go.RowKit
attribute [local irreducible] W4 NV
section
variable {a : Act} {w : World} {K : Act → World → Prop} {Q : Exit → Act → World → Prop} {d p : Nat} {ty : TypeId} {pos : String} {after : Array Edge} {gd : Option (Nat × Bool)}
theorem ol_lt3 {x c : Int} {b : Bool} (h1 : slot a p = .int .i64 x) (hb : decide (x < c) = b) (hK : K (a.put (some d) (.bool b)) w) : Oper.wp Try.prog { dst := some d, op := Op.binOp BinOp.lss 3 (Operand.tmp p) (Operand.const (.int .i64 c)) 3, type := ty, pos := pos, after := after, guard := gd } a w K Q := by
  unfold slot at h1
  simp [go_sem, h1, hb]
  exact hK
theorem ol_ge3 {x c : Int} {b : Bool} (h1 : slot a p = .int .i64 x) (hb : decide (c ≤ x) = b) (hK : K (a.put (some d) (.bool b)) w) : Oper.wp Try.prog { dst := some d, op := Op.binOp BinOp.geq 3 (Operand.tmp p) (Operand.const (.int .i64 c)) 3, type := ty, pos := pos, after := after, guard := gd } a w K Q := by
  unfold slot at h1
  simp [go_sem, h1, hb]
  exact hK
end
noncomputable def opsT5 : List Oper := (Try.f7.body.bind (findR 5)).getD []
def slotsT5 : List Nat := [21, 22, 23, 24, 25, 26, 27, 28, 29, 30, 31, 32, 33, 34, 35, 36, 37, 38, 4]
set_option maxHeartbeats 4000000 in
theorem regT5 {h0 h5 C P : Nat} {n S : Int} {a0 : Act} {ws : World} {Q : Exit → Act → World → Prop} (hs : a0.tmps.size = 67)
    (g1 : slot a0 1 = .int .i64 n) (g2 : slot a0 2 = .pointer (some ⟨h0, 0, none⟩)) (g5 : slot a0 5 = .pointer (some ⟨h5, 0, none⟩)) (hn0 : ¬ n < 0) (hn1 : ¬ 11 < n) (hS : 0 ≤ S)
    (hl5 : h5 < ws.heap.size) (q0 : ws.cell? ⟨h5, 0, none⟩ = some (.int .u64 (W4 0 0))) (q1 : ws.cell? ⟨h5, 1, none⟩ = some (.int .u64 (W4 0 1))) (q2 : ws.cell? ⟨h5, 2, none⟩ = some (.int .u64 (W4 0 2))) (q3 : ws.cell? ⟨h5, 3, none⟩ = some (.int .u64 (W4 0 3)))
    (hC0 : NV 4 C (.slice (some ⟨h0, 0, none⟩) 4 4) ws)
    (c20 : ∀ W, Calls Try.prog 20 #[.int .u64 1000, .int .i64 n] W fun r w' => ∃ v, r = .returned v ∧ NV 50000 P v w' ∧ Below W.heap.size W w')
    (c19 : ∀ W v, NV 4 C (.slice (some ⟨h0, 0, none⟩) 4 4) W → NV 50000 P v W → Calls Try.prog 19 #[.slice (some ⟨h0, 0, none⟩) 4 4, v] W fun r w' => r = .returned (.int .i64 S) ∧ W = w')
    (hQ : ∀ (a : Act) (w : World), slot a 4 = .bool true → a.tmps.size = 67 → a.defers = a0.defers → (∀ t, (∀ i, i < 19 → slotsT5.getD i 0 ≠ t) → slot a t = slot a0 t) → Below ws.heap.size ws w → Q .normal a w) :
    (Code.region 5 opsT5.toArray true).wp Try.prog Q a0 ws := by
  refine wp_region_gall 67 slotsT5 [isV (A4 0), isV (A4 0), isV (.bool true), isV (.bool true), isV (.int .i64 n), isV (.bool false), isV (.bool false), isV (.int .i64 n), isV (.bool false), isV (.bool false), isV (.bool false), isV (.slice (some ⟨h0, 0, none⟩) 4 4), isV (.int .i64 n), NV 50000 P, isV (.int .i64 S), isV (.bool true), isV (.bool true), isV (.bool true), isV (.bool true)]
    (fun w => Below ws.heap.size ws w) (by kernel_rfl) (by kernel_rfl) (by kernel_rfl) (by kernel_rfl) hs ?_ (Below.refl _ _).drew (fun w w' h hb => h.trans (hb.mono h.size)) ?_ ?_ ?_
  · intro p hp
    simp only [List.mem_cons, List.not_mem_nil, or_false] at hp
    rcases hp with rfl | rfl | rfl | rfl | rfl | rfl | rfl | rfl | rfl | rfl | rfl | rfl | rfl | rfl | rfl | rfl | rfl | rfl | rfl
    all_goals first | exact isV.stays _ | exact fun v w w' h hb => h.next hb
  · intro i o j b hi ho hg v w hv
    have hi' : i < 19 := hi
    have hor : i = 0 ∨ i = 1 ∨ i = 2 ∨ i = 3 ∨ i = 4 ∨ i = 5 ∨ i = 6 ∨ i = 7 ∨ i = 8 ∨ i = 9 ∨ i = 10 ∨ i = 11 ∨ i = 12 ∨ i = 13 ∨ i = 14 ∨ i = 15 ∨ i = 16 ∨ i = 17 ∨ i = 18 := by omega
    rcases hor with rfl | rfl | rfl | rfl | rfl | rfl | rfl | rfl | rfl | rfl | rfl | rfl | rfl | rfl | rfl | rfl | rfl | rfl | rfl
    all_goals
      obtain rfl := Option.some.inj (show opsT5[_]? = some o from ho)
      cases hg
    all_goals exact hv
  · intro i o' a w hi ho hC hF hdep
    have f1 : slot a 1 = .int .i64 n := (hF 1 (by decide)).trans g1
    have f2 : slot a 2 = .pointer (some ⟨h0, 0, none⟩) := (hF 2 (by decide)).trans g2
    have f5 : slot a 5 = .pointer (some ⟨h5, 0, none⟩) := (hF 5 (by decide)).trans g5
    have k0 : w.cell? ⟨h5, 0, none⟩ = some (.int .u64 (W4 0 0)) := (hC.cell (p := ⟨h5, 0, none⟩) hl5).trans q0
    have k1 : w.cell? ⟨h5, 1, none⟩ = some (.int .u64 (W4 0 1)) := (hC.cell (p := ⟨h5, 1, none⟩) hl5).trans q1
    have k2 : w.cell? ⟨h5, 2, none⟩ = some (.int .u64 (W4 0 2)) := (hC.cell (p := ⟨h5, 2, none⟩) hl5).trans q2
    have k3 : w.cell? ⟨h5, 3, none⟩ = some (.int .u64 (W4 0 3)) := (hC.cell (p := ⟨h5, 3, none⟩) hl5).trans q3
    have hi' : i < 19 := hi
    have hor : i = 0 ∨ i = 1 ∨ i = 2 ∨ i = 3 ∨ i = 4 ∨ i = 5 ∨ i = 6 ∨ i = 7 ∨ i = 8 ∨ i = 9 ∨ i = 10 ∨ i = 11 ∨ i = 12 ∨ i = 13 ∨ i = 14 ∨ i = 15 ∨ i = 16 ∨ i = 17 ∨ i = 18 := by omega
    rcases hor with rfl | rfl | rfl | rfl | rfl | rfl | rfl | rfl | rfl | rfl | rfl | rfl | rfl | rfl | rfl | rfl | rfl | rfl | rfl
    · obtain rfl := Option.some.inj (show opsT5[0]? = some o' from ho)
      exact og_ldB (i := 0) f5 k0 k1 k2 k3 ⟨_, rfl, rfl, Below.refl _ _⟩
    · obtain rfl := Option.some.inj (show opsT5[1]? = some o' from ho)
      exact og_bldB ⟨_, rfl, rfl, Below.refl _ _⟩
    · obtain rfl := Option.some.inj (show opsT5[2]? = some o' from ho)
      exact og_eqB (by decide) (by decide) rfl (hdep ⟨0, .data⟩ (by simp) rfl : slot a 21 = A4 0) (hdep ⟨1, .data⟩ (by simp) rfl : slot a 22 = A4 0) ⟨_, rfl, rfl, Below.refl _ _⟩
    · obtain rfl := Option.some.inj (show opsT5[3]? = some o' from ho)
      exact og_mv (hdep ⟨2, .data⟩ (by simp) rfl : slot a 23 = .bool true) ⟨_, rfl, rfl, Below.refl _ _⟩
    · obtain rfl := Option.some.inj (show opsT5[4]? = some o' from ho)
      exact og_mv f1 ⟨_, rfl, rfl, Below.refl _ _⟩
    · obtain rfl := Option.some.inj (show opsT5[5]? = some o' from ho)
      exact ol_lt3 (hdep ⟨4, .data⟩ (by simp) rfl : slot a 25 = .int .i64 n) (decide_eq_false hn0) ⟨_, rfl, rfl, Below.refl _ _⟩
    · obtain rfl := Option.some.inj (show opsT5[6]? = some o' from ho)
      exact og_mv (hdep ⟨5, .data⟩ (by simp) rfl : slot a 26 = .bool false) ⟨_, rfl, rfl, Below.refl _ _⟩
    · obtain rfl := Option.some.inj (show opsT5[7]? = some o' from ho)
      exact og_mv f1 ⟨_, rfl, rfl, Below.refl _ _⟩
    · obtain rfl := Option.some.inj (show opsT5[8]? = some o' from ho)
      exact og_gt3 (hdep ⟨7, .data⟩ (by simp) rfl : slot a 28 = .int .i64 n) (decide_eq_false hn1) ⟨_, rfl, rfl, Below.refl _ _⟩
    · obtain rfl := Option.some.inj (show opsT5[9]? = some o' from ho)
      exact og_pkF (hdep ⟨6, .data⟩ (by simp) rfl : slot a 27 = .bool false) (hdep ⟨8, .data⟩ (by simp) rfl : slot a 29 = .bool false) ⟨_, rfl, rfl, Below.refl _ _⟩
    · obtain rfl := Option.some.inj (show opsT5[10]? = some o' from ho)
      exact og_mv (hdep ⟨9, .data⟩ (by simp) rfl : slot a 30 = .bool false) ⟨_, rfl, rfl, Below.refl _ _⟩
    · obtain rfl := Option.some.inj (show opsT5[11]? = some o' from ho)
      exact og_slB f2 ⟨_, rfl, rfl, Below.refl _ _⟩
    · obtain rfl := Option.some.inj (show opsT5[12]? = some o' from ho)
      exact og_mv f1 ⟨_, rfl, rfl, Below.refl _ _⟩
    · obtain rfl := Option.some.inj (show opsT5[13]? = some o' from ho)
      refine og_pow (u0 := .int .u64 1000) (hdep ⟨12, .data⟩ (by simp) rfl : slot a 33 = .int .i64 n) ((c20 w).mono ?_)
      rintro e w' ⟨v, rfl, hv, hb⟩
      exact ⟨_, rfl, _, rfl, hv, hb⟩
    · obtain rfl := Option.some.inj (show opsT5[14]? = some o' from ho)
      refine og_c2 (by simp [go_sem]) (hdep ⟨11, .data⟩ (by simp) rfl : slot a 32 = .slice (some ⟨h0, 0, none⟩) 4 4) rfl ((c19 w _ (hC0.next hC) (hdep ⟨13, .data⟩ (by simp) rfl)).mono ?_)
      rintro e w' ⟨rfl, rfl⟩
      exact ⟨_, rfl, _, rfl, rfl, Below.refl _ _⟩
    · obtain rfl := Option.some.inj (show opsT5[15]? = some o' from ho)
      exact ol_ge3 (hdep ⟨14, .data⟩ (by simp) rfl : slot a 35 = .int .i64 S) (decide_eq_true hS) ⟨_, rfl, rfl, Below.refl _ _⟩
    · obtain rfl := Option.some.inj (show opsT5[16]? = some o' from ho)
      exact og_pkF (hdep ⟨10, .data⟩ (by simp) rfl : slot a 31 = .bool false) (hdep ⟨15, .data⟩ (by simp) rfl : slot a 36 = .bool true) ⟨_, rfl, rfl, Below.refl _ _⟩
    · obtain rfl := Option.some.inj (show opsT5[17]? = some o' from ho)
      exact og_pkT (hdep ⟨3, .data⟩ (by simp) rfl : slot a 24 = .bool true) (hdep ⟨16, .data⟩ (by simp) rfl : slot a 37 = .bool true) ⟨_, rfl, rfl, Below.refl _ _⟩
    · obtain rfl := Option.some.inj (show opsT5[18]? = some o' from ho)
      exact og_as (hdep ⟨17, .data⟩ (by simp) rfl : slot a 38 = .bool true) ⟨_, rfl, rfl, Below.refl _ _⟩
  · intro a w hC hsz hdf hF hR
    exact hQ a w (hR 18 (by decide)) hsz hdf (fun t ht => hF t ht) hC
end Go.Proofs.Ytpgihikbdmmdpaa

namespace Go.Proofs.Ytpgihikbdmmdpaa
open Go.RowKit

def knB (d : Int) : Prop := 0 ≤ d ∧ d ≤ 4
instance (d : Int) : Decidable (knB d) := inferInstanceAs (Decidable (_ ∧ _))
theorem sgn_ways (a b : Int) : (a < b ∧ sgn a b = -1) ∨ (a = b ∧ sgn a b = 0) ∨ (b < a ∧ sgn a b = 1) := by
  unfold sgn
  by_cases h : a < b
  · exact Or.inl ⟨h, if_pos h⟩
  · by_cases h' : b < a
    · exact Or.inr (Or.inr ⟨h', by rw [if_neg h, if_pos h']⟩)
    · exact Or.inr (Or.inl ⟨by omega, by rw [if_neg h, if_neg h']⟩)
end Go.Proofs.Ytpgihikbdmmdpaa
