/-
  Texts that the proof leans on, joined: Se9, Ord, Rl, Oa, Ru.
-/
import Derived.Test.YtplocajjfoiklaaGreatDoorJ30
import Derived.StillTail
import Derived.Below
import Derived.WalkKit
import Derived.Test.YtplocajjfoiklaaGreatDoorJ26
import Derived.Test.YtplocajjfoiklaaGreatDoorJ22
import Derived.Deep.RegionWith
import Derived.Test.YtplocajjfoiklaaGreatDoorJ1
set_option linter.unusedVariables false
set_option linter.unusedSectionVars false
set_option linter.unusedSimpArgs false
set_option maxRecDepth 20000
namespace Go.Proofs.YtplocajjfoiklaaGreatDoor
open Go.RowKit

/-- a slice -/
def isSl (v : Value) : Prop := ∃ a k c, v = .slice a k c
/-- the block g is a reach -/
structure Rch (g : Nat) (vn vb va vw : Value) (c : Bool) (w : World) : Prop where
  blk : w.heap[g]? = some (.cells #[vn, vb, va, vw, .bool c] 212)
  s0 : isSl vn
  s1 : isSl vb
  s2 : isSl va
  s3 : isSl vw
/-- all but block g is as it was, but for what is new -/
structure Mut (g : Nat) (w w' : World) : Prop where
  os : w'.os = w.os
  tape : w'.tape = w.tape
  output : w'.output = w.output
  size : w.heap.size ≤ w'.heap.size
  block : ∀ k, k < w.heap.size → k ≠ g → w'.heap[k]? = w.heap[k]?
theorem Mut.refl (g : Nat) (w : World) : Mut g w w := ⟨rfl, rfl, rfl, Nat.le_refl _, fun _ _ _ => rfl⟩
theorem Mut.trans {g : Nat} {a b c : World} (h : Mut g a b) (k : Mut g b c) : Mut g a c :=
  ⟨k.os.trans h.os, k.tape.trans h.tape, k.output.trans h.output, Nat.le_trans h.size k.size, fun i hi hg => (k.block i (Nat.lt_of_lt_of_le hi h.size) hg).trans (h.block i hi hg)⟩
theorem Mut.below {g : Nat} {a b : World} (h : Below a.heap.size a b) : Mut g a b := ⟨h.os, h.tape, h.output, h.size, fun k hk _ => h.block k hk⟩
theorem Mut.set {g : Nat} {a b : World} (h : Mut g a b) (i : Nat) (v : Value) : Mut g a (b.setCell ⟨g, i, none⟩ v) :=
  h.trans ⟨rfl, rfl, rfl, by simp [World.setCell], fun k _ hk => Below.heap_setCell _ _ _ _ hk⟩
theorem Mut.out {g B : Nat} {w0 w w' : World} (h : Mut g w w') (h0 : Below B w0 w) (hB : B ≤ g) (hs : B ≤ w0.heap.size) : Below B w0 w' :=
  h0.trans ⟨h.os, h.tape, h.output, h.size, fun k hk => h.block k (by have := h0.size; omega) (by omega)⟩
theorem Rch.lt {g : Nat} {vn vb va vw : Value} {c : Bool} {w : World} (h : Rch g vn vb va vw c w) : g < w.heap.size := by
  rcases Nat.lt_or_ge g w.heap.size with h' | h'
  · exact h'
  · have := h.blk; rw [Array.getElem?_eq_none h'] at this; cases this
theorem Rch.next {g : Nat} {vn vb va vw : Value} {c : Bool} {w w' : World} (h : Rch g vn vb va vw c w) (hb : Below w.heap.size w w') : Rch g vn vb va vw c w' :=
  ⟨(hb.block g h.lt).trans h.blk, h.s0, h.s1, h.s2, h.s3⟩
theorem Rch.cell {g : Nat} {vn vb va vw : Value} {c : Bool} {w : World} (h : Rch g vn vb va vw c w) (i : Nat) : w.cell? ⟨g, i, none⟩ = (#[vn, vb, va, vw, .bool c] : Array Value)[i]? := by
  unfold World.cell?
  simp [h.blk]
theorem Rch.cells {g : Nat} {vn vb va vw : Value} {c : Bool} {w : World} (h : Rch g vn vb va vw c w) :
    w.cell? ⟨g, 0, none⟩ = some vn ∧ w.cell? ⟨g, 1, none⟩ = some vb ∧ w.cell? ⟨g, 2, none⟩ = some va ∧ w.cell? ⟨g, 3, none⟩ = some vw ∧ w.cell? ⟨g, 4, none⟩ = some (.bool c) :=
  ⟨h.cell 0, h.cell 1, h.cell 2, h.cell 3, h.cell 4⟩
theorem Rch.set {g : Nat} {vn vb va vw : Value} {c : Bool} {w : World} (h : Rch g vn vb va vw c w) (v : Value) (hv : isSl v) :
    Rch g v vb va vw c (w.setCell ⟨g, 0, none⟩ v) ∧ Rch g vn v va vw c (w.setCell ⟨g, 1, none⟩ v) ∧ Rch g vn vb v vw c (w.setCell ⟨g, 2, none⟩ v) ∧ Rch g vn vb va v c (w.setCell ⟨g, 3, none⟩ v) := by
  have hb := h.blk
  refine ⟨⟨?_, hv, h.s1, h.s2, h.s3⟩, ⟨?_, h.s0, hv, h.s2, h.s3⟩, ⟨?_, h.s0, h.s1, hv, h.s3⟩, ⟨?_, h.s0, h.s1, h.s2, hv⟩⟩ <;>
    simp [World.setCell, Array.getElem?_modify, hb]
attribute [local irreducible] W4 Nz Nt NT
section
variable (g : Nat) (vn vb va vw : Value) (c : Bool) (w : World) (hR : Rch g vn vb va vw c w)
include hR
end
end Go.Proofs.YtplocajjfoiklaaGreatDoor

namespace Go.Proofs.YtplocajjfoiklaaGreatDoor
open Go.RowKit

section
variable {P : Program} {ops : Array Oper} {Q : Exit → Act → World → Prop} {md : Region.Mode}

/-- how many of the first n are still to come -/
def toCome (listed : Array Bool) : Nat → Nat
  | 0 => 0
  | n + 1 => toCome listed n + (if listed.getD n true then 0 else 1)
theorem toCome_out {listed : Array Bool} {i : Nat} : ∀ n, n ≤ i → toCome (listed.setIfInBounds i true) n = toCome listed n
  | 0, _ => rfl
  | n + 1, h => by unfold toCome; rw [toCome_out n (by omega), getD_set_ne true (by omega)]
theorem toCome_set {listed : Array Bool} {i : Nat} (hu : listed.getD i true = false) : ∀ n, i < n → toCome (listed.setIfInBounds i true) n + 1 = toCome listed n
  | 0, h => by omega
  | n + 1, h => by
    unfold toCome
    by_cases e : i = n
    · subst e
      have hlt : i < listed.size := by
        rcases Nat.lt_or_ge i listed.size with h' | h'
        · exact h'
        · simp [Array.getElem?_eq_none h'] at hu
      rw [toCome_out i (Nat.le_refl _), hu]
      simp [hlt]
    · rw [getD_set_ne true e]
      have := toCome_set hu n (by omega)
      omega
theorem toCome_zero {listed : Array Bool} : ∀ n, toCome listed n = 0 → ∀ i, i < n → listed.getD i true = true
  | 0, _, i, h => by omega
  | n + 1, h, i, hi => by
    unfold toCome at h
    by_cases e : i = n
    · subst e
      by_cases hl : listed.getD i true = true
      · exact hl
      · rw [if_neg hl] at h; omega
    · exact toCome_zero n (by omega) i (by omega)
theorem toCome_least {listed : Array Bool} : ∀ n, 0 < toCome listed n → ∃ i, i < n ∧ listed.getD i true = false ∧ ∀ j, j < i → listed.getD j true = true
  | 0, h => by simp [toCome] at h
  | n + 1, h => by
    by_cases h0 : 0 < toCome listed n
    · obtain ⟨i, h1, h2, h3⟩ := toCome_least n h0
      exact ⟨i, by omega, h2, h3⟩
    · unfold toCome at h
      have hz := toCome_zero (listed := listed) n (by omega)
      refine ⟨n, by omega, ?_, fun j hj => hz j hj⟩
      cases hl : listed.getD n true with
      | false => rfl
      | true => rw [hl, if_pos rfl] at h; omega

/-- of the first n each waits for earlier ones alone -/
def backB (md : Region.Mode) (ops : Array Oper) (n : Nat) : Bool :=
  (List.range n).all fun i => match ops[i]? with
    | some o => o.after.all fun e => !Region.binds md e || decide (e.on < i)
    | none => false
theorem backB_spec {n : Nat} (h : backB md ops n = true) (i : Nat) (hi : i < n) : ∃ o, ops[i]? = some o ∧ ∀ e ∈ o.after, Region.binds md e = true → e.on < i := by
  have h1 := List.all_eq_true.1 h i (List.mem_range.2 hi)
  cases ho : ops[i]? with
  | none => simp only [ho] at h1; cases h1
  | some o =>
    simp only [ho] at h1
    refine ⟨o, rfl, fun e he hb => ?_⟩
    have h2 := Array.all_eq_true_iff_forall_mem.1 h1 e he
    simpa [hb] using h2

theorem getD_true_in {listed : Array Bool} {i : Nat} (hi : i < listed.size) (h : listed.getD i true = true) : listed.getD i false = true := by
  simp [hi] at h ⊢; exact h

theorem toCome_replicate (m : Nat) : ∀ n, n ≤ m → toCome (Array.replicate m false) n = n
  | 0, _ => rfl
  | n + 1, h => by unfold toCome; rw [toCome_replicate m n (by omega)]; simp [show n < m by omega]

/-- what slot t of a frame holds -/
abbrev slot (a : Act) (t : Nat) : Value := a.tmps[t]?.getD undef
theorem slot_put_ne {a : Act} {d t : Nat} {v : Value} (h : d ≠ t) : slot (a.put (some d) v) t = slot a t := by
  simp [slot, Act.put, Array.getElem?_setIfInBounds_ne h]
theorem slot_put {a : Act} {d : Nat} {v : Value} (h : d < a.tmps.size) : slot (a.put (some d) v) d = v := by
  simp [slot, Act.put, h]

/-- what is said of a value stays, whatever memory is made -/
def Stays (p : Value → World → Prop) : Prop := ∀ v w w', p v w → Below w.heap.size w w' → p v w'

/-- each of the first n writes a slot of its own -/
def dstG (l : List Oper) (D : List Nat) (n m : Nat) : Bool :=
  (List.range n).all fun i => (match l[i]? with
    | some o => o.dst == some (D.getD i 0)
    | none => false) && decide (D.getD i 0 < m) && (List.range n).all fun j => j == i || D.getD j 0 != D.getD i 0
theorem dstG_spec {l : List Oper} {D : List Nat} {n m : Nat} (h : dstG l D n m = true) (i : Nat) (hi : i < n) :
    ∃ o, l[i]? = some o ∧ o.dst = some (D.getD i 0) ∧ D.getD i 0 < m ∧ ∀ j, j < n → j ≠ i → D.getD j 0 ≠ D.getD i 0 := by
  have h1 := List.all_eq_true.1 h i (List.mem_range.2 hi)
  cases ho : l[i]? with
  | none => simp [ho] at h1
  | some o =>
    simp only [ho, Bool.and_eq_true, decide_eq_true_eq, beq_iff_eq, List.all_eq_true, Bool.or_eq_true, bne_iff_ne, List.mem_range] at h1
    exact ⟨o, rfl, h1.1.1, h1.1.2, fun j hj hne => (h1.2 j hj).resolve_left hne⟩
/-- what an operation's guard looks at is done ahead of it -/
def gdB (l : List Oper) (n : Nat) : Bool :=
  (List.range n).all fun i => match l[i]? with
    | some o => match o.guard with
      | none => true
      | some (j, _) => decide (j < n) && o.after.any fun e => Region.binds .any e && e.on == j
    | none => false
theorem gdB_spec {l : List Oper} {n : Nat} (h : gdB l n = true) (i : Nat) (hi : i < n) (o : Oper) (ho : l[i]? = some o) (j : Nat) (b : Bool) (hg : o.guard = some (j, b)) :
    j < n ∧ ∃ e ∈ o.after, Region.binds .any e = true ∧ e.on = j := by
  have h1 := List.all_eq_true.1 h i (List.mem_range.2 hi)
  simp only [ho, hg, Bool.and_eq_true, decide_eq_true_eq, Array.any_eq_true', beq_iff_eq] at h1
  obtain ⟨h1, e, he, h2, h3⟩ := h1
  exact ⟨h1, e, he, h2, h3⟩

end
end Go.Proofs.YtplocajjfoiklaaGreatDoor

namespace Go.Proofs.YtplocajjfoiklaaGreatDoor
open Go.RowKit

set_option maxHeartbeats 400000 in
theorem rbinary_any (n : Int) (w : World) : Calls Tryz.prog 14 #[.int .i64 n] w fun e w' => e = .returned (.bool (decide (binN n))) ∧ w' = w := by
  by_cases h1 : 1 ≤ n
  · by_cases h2 : n ≤ 6
    · rw [decide_eq_true (show binN n from ⟨h1, h2⟩)]
      go_enter Tryz.func14, Tryz.ntmps14
      go_wp2
      go_ret
      exact ⟨rfl, rfl⟩
    · rw [decide_eq_false (show ¬ binN n from fun h => h2 h.2)]
      go_enter Tryz.func14, Tryz.ntmps14
      go_wp2
      go_ret
      exact ⟨rfl, rfl⟩
  · rw [decide_eq_false (show ¬ binN n from fun h => h1 h.1)]
    go_enter Tryz.func14, Tryz.ntmps14
    go_wp2
    go_ret
    exact ⟨rfl, rfl⟩
theorem rfits4 (n : Int) (B : Nat) (hB : B < 2 ^ 256) (w : World) :
    Calls Tryz.prog 46 #[.int .i64 n, A4 B] w fun x w' => x = .returned (.bool (decide (okN n ∧ B < 2 ^ (widthN n).toNat))) ∧ Below w.heap.size w w' := by
  refine (rfits_any n (W4 B) (W4_words B) _ (A4_get B) rfl w).mono ?_
  rintro x w' ⟨rfl, hb⟩
  refine ⟨?_, hb⟩
  have hwd := (fields_bounds n).2.1
  have e : (fitsP n (W4 B)) ↔ (okN n ∧ B < 2 ^ (widthN n).toNat) := by
    unfold fitsP
    rw [lenL_low]
    have := len4_le (k := (widthN n).toNat) hB
    rw [show (((widthN n).toNat : Nat) : Int) = widthN n by omega] at this
    rw [this]
  rw [decide_eq_decide.2 e]
set_option maxHeartbeats 400000 in
theorem rgood_any (n : Int) (B : Nat) (hB : B < 2 ^ 256) (w : World) :
    Calls Tryz.prog 13 #[.int .i64 n, A4 B] w fun x w' => x = .returned (.bool (decide (goodN n B))) ∧ Below w.heap.size w w' := by
  have c35 := fun w => rbinary_any n w
  have c50 := fun w => rfits4 n B hB w
  by_cases hb : binN n
  · have hF := bin_fields hb
    rw [decide_eq_true hb] at c35
    have e : (okN n ∧ B < 2 ^ (widthN n).toNat) ↔ goodN n B := by
      rw [hF.2.2.2.2.1, Int.toNat_natCast]
      exact ⟨fun h => ⟨hb, h.2⟩, fun h => ⟨hF.1, h.2⟩⟩
    rw [decide_eq_decide.2 e] at c50
    generalize decide (goodN n B) = D at *
    clear hF e hb hB
    go_enter Tryz.func13, Tryz.ntmps13
    go_wp2_with (first
      | (go_at_call 14; refine (c35 _).mono ?_; rintro e w1 ⟨rfl, rfl⟩)
      | (go_at_call 46; refine (c50 _).mono ?_; rintro e w2 ⟨rfl, hb2⟩))
    go_ret
    exact ⟨rfl, bnext bgo hb2⟩
  · rw [decide_eq_false hb] at c35
    rw [decide_eq_false (show ¬ goodN n B from fun h => hb h.1)]
    clear hb hB c50
    go_enter Tryz.func13, Tryz.ntmps13
    go_wp2_with (go_at_call 14; refine (c35 _).mono ?_; rintro e w1 ⟨rfl, rfl⟩)
    go_ret
    exact ⟨rfl, bgo⟩
end Go.Proofs.YtplocajjfoiklaaGreatDoor

namespace Go.Proofs.YtplocajjfoiklaaGreatDoor
open Go.RowKit

section
variable {P : Program} {ops : Array Oper} {Q : Exit → Act → World → Prop} {md : Region.Mode}
theorem wpAny_inv0 {B : Act → World → Prop} {R : Nat → Act → World → Prop} (hb : backB md ops ops.size = true)
    (hstep : ∀ i o a w, ops[i]? = some o → B a w → (∀ e ∈ o.after, Region.binds md e = true → R e.on a w) → wpOp P ops Q i (fun a' w' => B a' w' ∧ R i a' w' ∧ ∀ j, j < ops.size → j ≠ i → R j a w → R j a' w') a w)
    (hend : ∀ a w, B a w → (∀ i, i < ops.size → R i a w) → Q .normal a w) :
    ∀ (f : Nat) (listed : Array Bool) (a : Act) (w : World), listed.size = ops.size → toCome listed ops.size = f → B a w → (∀ i, i < ops.size → listed.getD i false = true → R i a w) → wpAny P md ops Q f listed a w
  | 0, listed, a, w, hsz, hf, hB, hR => by
    have hz := toCome_zero ops.size hf
    refine ⟨?_, hend a w hB fun i hi => hR i hi (getD_true_in (by rw [hsz]; exact hi) (hz i hi))⟩
    refine List.eq_nil_iff_forall_not_mem.2 fun j hj => ?_
    obtain ⟨hu, o, ho, _⟩ := mem_ready.1 hj
    have hlt : j < ops.size := (Array.getElem?_eq_some_iff.1 ho).1
    rw [hz j hlt] at hu; cases hu
  | f + 1, listed, a, w, hsz, hf, hB, hR => by
    obtain ⟨k, hk, hku, hkl⟩ := toCome_least (listed := listed) ops.size (by omega)
    refine ⟨fun h0 => ?_, fun i hi => ?_⟩
    · obtain ⟨o, ho, hlt⟩ := backB_spec hb k hk
      have : k ∈ Region.ready md ops listed := mem_ready.2 ⟨hku, o, ho, fun e he hbd => by
        have := hlt e he hbd
        exact getD_true_in (by rw [hsz]; omega) (hkl _ this)⟩
      rw [h0] at this; cases this
    · obtain ⟨hu, o, ho, hall⟩ := mem_ready.1 hi
      have hin : i < ops.size := (Array.getElem?_eq_some_iff.1 ho).1
      obtain ⟨o', ho', hlt⟩ := backB_spec hb i hin
      obtain rfl : o' = o := Option.some.inj (ho'.symm.trans ho)
      refine wpOp_mono (fun a' w' h3 => ?_) (hstep i o' a w ho hB fun e he hbd => hR _ (by have := hlt e he hbd; omega) (hall e he hbd))
      refine wpAny_inv0 hb hstep hend f _ a' w' (by simp [hsz]) (by have := toCome_set hu ops.size hin; omega) h3.1 fun j hj hl => ?_
      by_cases e : j = i
      · subst e; exact h3.2.1
      · rw [getD_set_ne false (fun h => e h.symm)] at hl
        exact h3.2.2 j hj e (hR j hj hl)

/-- wp_region_gvals, of a region all of whose operations leave a value -/
theorem wp_region_gall (m : Nat) (D : List Nat) (S : List (Value → World → Prop)) (C : World → Prop) {id : Nat} {l : List Oper} {a0 : Act} {w0 : World} (hm : P.follows .mixedOrders = true) (hI : backB .any l.toArray l.length = true) (hD : dstG l D l.length m = true) (hGd : gdB l l.length = true)
    (hsz : a0.tmps.size = m) (hS : ∀ p ∈ S, Stays p) (hC0 : C w0.drew) (hCn : ∀ w w', C w → Below w.heap.size w w' → C w')
    (hGv : ∀ i o j b, i < l.length → l[i]? = some o → o.guard = some (j, b) → ∀ v w, (S.getD j fun _ _ => True) v w → v = .bool b)
    (hstep : ∀ i o a w, i < l.length → l[i]? = some o → C w → (∀ t, (∀ i, i < l.length → D.getD i 0 ≠ t) → slot a t = slot a0 t) → (∀ e ∈ o.after, Region.binds .any e = true → (S.getD e.on fun _ _ => True) (slot a (D.getD e.on 0)) w) →
      o.wp P a w (fun a' w' => ∃ v, a' = a.put o.dst v ∧ (S.getD i fun _ _ => True) v w' ∧ Below w.heap.size w w') Q)
    (hend : ∀ a w, C w → a.tmps.size = m → a.defers = a0.defers → (∀ t, (∀ i, i < l.length → D.getD i 0 ≠ t) → slot a t = slot a0 t) → (∀ i, i < l.length → (S.getD i fun _ _ => True) (slot a (D.getD i 0)) w) → Q .normal a w) :
    (Code.region id l.toArray true).wp P Q a0 w0 := by
  have hSt : ∀ i, Stays (S.getD i fun _ _ => True) := by
    intro i
    rcases Nat.lt_or_ge i S.length with h | h
    · rw [List.getD_eq_getElem?_getD, List.getElem?_eq_getElem h]; exact hS _ (List.getElem_mem h)
    · rw [List.getD_eq_getElem?_getD, List.getElem?_eq_none h]; exact fun _ _ _ _ _ => trivial
  have hsl : l.toArray.size = l.length := by simp
  refine wp_region_any hm ?_
  have H := wpAny_inv0 (P := P) (Q := Q) (md := .any) (ops := l.toArray) (B := fun a w => C w ∧ a.tmps.size = m ∧ a.defers = a0.defers ∧ ∀ t, (∀ i, i < l.length → D.getD i 0 ≠ t) → slot a t = slot a0 t)
    (R := fun i a w => (S.getD i fun _ _ => True) (slot a (D.getD i 0)) w) (by rw [hsl]; exact hI) ?_ (fun a w h hR => hend a w h.1 h.2.1 h.2.2.1 h.2.2.2 (fun i hi => hR i (by rw [hsl]; exact hi))) l.toArray.size (Array.replicate l.toArray.size false) a0 w0.drew (by simp) (toCome_replicate _ _ (Nat.le_refl _)) ⟨hC0, hsz, rfl, fun _ _ => rfl⟩ (fun i hi hl => by rw [getD_replicate_false] at hl; cases hl)
  · exact H
  intro i o a w ho0 hB hR
  have ho : l[i]? = some o := by simpa using ho0
  have hi : i < l.length := (List.getElem?_eq_some_iff.1 ho).1
  obtain ⟨o', ho2, hd, hlt, hne⟩ := dstG_spec hD i hi
  have eo : o' = o := Option.some.inj (ho2.symm.trans ho)
  subst eo
  have hw := hstep i o' a w hi ho hB.1 hB.2.2.2 hR
  unfold wpOp
  simp only [ho0]
  have hwant : Region.wanted o' (yielded l.toArray a.tmps) = true := by
    unfold Region.wanted
    cases hg : o'.guard with
    | none => rfl
    | some q =>
      obtain ⟨j, b⟩ := q
      obtain ⟨hj, e, he, hbd, hej⟩ := gdB_spec hGd i hi o' ho j b hg
      have hv := hR e he hbd
      rw [hej] at hv
      have hv2 := hGv i o' j b hi ho hg _ _ hv
      obtain ⟨oj, hoj, hdj, hltj, _⟩ := dstG_spec hD j hj
      have hoj' : l.toArray[j]? = some oj := by simpa using hoj
      have hs : D.getD j 0 < a.tmps.size := by rw [hB.2.1]; exact hltj
      have ht : a.tmps[D.getD j 0]? = some (.bool b) := by
        have h5 : a.tmps[D.getD j 0]? = some a.tmps[D.getD j 0] := Array.getElem?_eq_getElem hs
        have h6 : slot a (D.getD j 0) = a.tmps[D.getD j 0] := by unfold slot; rw [h5]; rfl
        rw [h5, ← h6, hv2]
      have hy : yielded l.toArray a.tmps j = some b := by
        unfold yielded
        simp only [hoj', Option.bind_some, hdj, ht]
      simp [hy]
  rw [if_pos hwant]
  refine Or.inl (Oper.wp_mono ?_ hw)
  rintro a' w' ⟨v, rfl, hv, hb⟩
  rw [hd]
  refine ⟨⟨hCn _ _ hB.1 hb, by simp [Act.put, hB.2.1], hB.2.2.1, fun t ht => ?_⟩, ?_, fun j hj hji hRj => ?_⟩
  · rw [slot_put_ne (ht i hi)]; exact hB.2.2.2 t ht
  · show (S.getD i fun _ _ => True) (slot (a.put (some (D.getD i 0)) v) (D.getD i 0)) w'
    rw [slot_put (by rw [hB.2.1]; exact hlt)]; exact hv
  · show (S.getD j fun _ _ => True) (slot (a.put (some (D.getD i 0)) v) (D.getD j 0)) w'
    rw [slot_put_ne (fun h => hne j (by rw [← hsl]; exact hj) hji h.symm)]
    exact hSt j _ _ _ hRj hb
/-- this value -/
def isV (u : Value) : Value → World → Prop := fun v _ => v = u
theorem isV.stays (u : Value) : Stays (isV u) := fun v w w' h _ => h
end
end Go.Proofs.YtplocajjfoiklaaGreatDoor

namespace Go.Proofs.YtplocajjfoiklaaGreatDoor
open Go.RowKit

theorem NT.stays (K V : Nat) : Stays (NT K V) := fun v w w' h hb => h.next hb
section
variable {a : Act} {w : World} {K : Act → World → Prop} {Q : Exit → Act → World → Prop} {d p q r : Nat} {ty : TypeId} {pos : String} {after : Array Edge} {gd : Option (Nat × Bool)}
theorem op_mv {v : Value} (h1 : slot a p = v) (hK : K (a.put (some d) v) w) : Oper.wp Tryz.prog { dst := some d, op := Op.move (Operand.tmp p), type := ty, pos := pos, after := after, guard := gd } a w K Q := by
  unfold slot at h1
  simp [go_sem, h1]
  exact hK
theorem op_as {v : Value} (h1 : slot a p = v) (hK : K (a.put (some d) v) w) : Oper.wp Tryz.prog { dst := some d, op := Op.assign (Operand.tmp p), type := ty, pos := pos, after := after, guard := gd } a w K Q := by
  unfold slot at h1
  simp [go_sem, h1]
  exact hK
theorem op_fa5 {g : Nat} (h1 : slot a p = .pointer (some ⟨g, 0, none⟩)) (hK : K (a.put (some d) (.pointer (some ⟨g, 5, none⟩))) w) : Oper.wp Tryz.prog { dst := some d, op := Op.fieldAddr 97 (Operand.tmp p) 5, type := ty, pos := pos, after := after, guard := gd } a w K Q := by
  unfold slot at h1
  simp [go_sem, h1]
  exact hK
theorem op_ld {g i : Nat} {x : Int} (h1 : slot a p = .pointer (some ⟨g, i, none⟩)) (h2 : w.cell? ⟨g, i, none⟩ = some (.int .i64 x)) (hK : K (a.put (some d) (.int .i64 x)) w) : Oper.wp Tryz.prog { dst := some d, op := Op.load 3 (Operand.tmp p), type := ty, pos := pos, after := after, guard := gd } a w K Q := by
  unfold slot at h1
  simp [go_sem, h1, h2]
  exact hK
theorem op_ld24 {g : Nat} {B : Nat} (h1 : slot a p = .pointer (some ⟨g, 0, none⟩)) (h2 : ∀ i, i < 4 → w.cell? ⟨g, i, none⟩ = some (.int .u64 (W4 B i))) (hK : K (a.put (some d) (A4 B)) w) : Oper.wp Tryz.prog { dst := some d, op := Op.load 24 (Operand.tmp p), type := ty, pos := pos, after := after, guard := gd } a w K Q := by
  unfold slot at h1
  have c0 := h2 0 (by decide)
  have c1 := h2 1 (by decide)
  have c2 := h2 2 (by decide)
  have c3 := h2 3 (by decide)
  simp [go_sem, h1, c0, c1, c2, c3]
  exact hK
theorem op_c26z {u u' : Value} {z : Int} {ts : Array TypeId} (h1 : slot a p = u) (h2 : slot a q = u') (hc : Calls Tryz.prog 27 #[u, .int .i64 z, u'] w fun e w' => ∃ v, e = .returned v ∧ K (a.put (some d) v) w') : Oper.wp Tryz.prog { dst := some d, op := Op.call { callee := Callee.value (Operand.func 27), args := #[Operand.tmp p, Operand.const (.int .i64 z), Operand.tmp q], argTypes := ts }, type := ty, pos := pos, after := after, guard := gd } a w K Q := by
  unfold slot at h1 h2
  simp [go_sem, h1, h2]
  refine hc.mono ?_
  rintro e w' ⟨v, rfl, hK⟩
  exact hK
theorem op_c26 {u u' u'' : Value} {ts : Array TypeId} (h1 : slot a p = u) (h2 : slot a q = u') (h3 : slot a r = u'') (hc : Calls Tryz.prog 27 #[u, u', u''] w fun e w' => ∃ v, e = .returned v ∧ K (a.put (some d) v) w') : Oper.wp Tryz.prog { dst := some d, op := Op.call { callee := Callee.value (Operand.func 27), args := #[Operand.tmp p, Operand.tmp q, Operand.tmp r], argTypes := ts }, type := ty, pos := pos, after := after, guard := gd } a w K Q := by
  unfold slot at h1 h2 h3
  simp [go_sem, h1, h2, h3]
  refine hc.mono ?_
  rintro e w' ⟨v, rfl, hK⟩
  exact hK
theorem op_c27 {u : Value} {ts : Array TypeId} (h1 : slot a p = u) (hc : Calls Tryz.prog 59 #[u] w fun e w' => ∃ v, e = .returned v ∧ K (a.put (some d) v) w') : Oper.wp Tryz.prog { dst := some d, op := Op.call { callee := Callee.value (Operand.func 59), args := #[Operand.tmp p], argTypes := ts }, type := ty, pos := pos, after := after, guard := gd } a w K Q := by
  unfold slot at h1
  simp [go_sem, h1]
  refine hc.mono ?_
  rintro e w' ⟨v, rfl, hK⟩
  exact hK
end
noncomputable def ops5 : List Oper := match Tryz.f24.body with
  | some (.seq _ (.seq _ (.seq _ (.seq _ (.seq (.region _ o _) _))))) => o.toList
  | _ => []
def slots5 : List Nat := [25, 26, 27, 28, 29, 30, 31, 32, 33, 9, 10]
set_option maxHeartbeats 4000000 in
theorem reg5 {gb gi f e B Fr En : Nat} {a0 : Act} {ws : World} {Q : Exit → Act → World → Prop} (c0 : ∀ w, Calls Tryz.prog 27 #[A4 B, .int .i64 0, .int .i64 f] w fun x w' => ∃ r, x = .returned r ∧ NT 19 Fr r w' ∧ Below w.heap.size w w') (c1 : ∀ w, Calls Tryz.prog 27 #[A4 B, .int .i64 f, .int .i64 e] w fun x w' => ∃ r, x = .returned r ∧ NT 19 En r w' ∧ Below w.heap.size w w') (hE : En < 9223372036854775808) (hs : a0.tmps.size = 101)
    (h3 : slot a0 3 = .pointer (some ⟨gb, 0, none⟩)) (h6 : slot a0 6 = .pointer (some ⟨gi, 0, none⟩)) (h8 : slot a0 8 = .int .i64 f)
    (hgb : gb < ws.heap.size) (hgi : gi < ws.heap.size) (hcb : ∀ i, i < 4 → ws.cell? ⟨gb, i, none⟩ = some (.int .u64 (W4 B i))) (hci : ws.cell? ⟨gi, 5, none⟩ = some (.int .i64 e))
    (hQ : ∀ (a : Act) (w : World) (v : Value), NT 19 Fr v w → slot a 9 = v → slot a 10 = .int .i64 (En : Int) → a.tmps.size = 101 → a.defers = a0.defers → (∀ t, (∀ i, i < 11 → slots5.getD i 0 ≠ t) → slot a t = slot a0 t) → Below ws.heap.size ws w → Q .normal a w) :
    (Code.region 5 ops5.toArray true).wp Tryz.prog Q a0 ws := by
  refine wp_region_gall 101 slots5 [isV (A4 B), isV (.int .i64 f), NT 19 Fr, isV (A4 B), isV (.int .i64 f), isV (.pointer (some ⟨gi, 5, none⟩)), isV (.int .i64 e), NT 19 (En), isV (.int .i64 (En : Int)), NT 19 Fr, isV (.int .i64 (En : Int))]
    (fun w => Below ws.heap.size ws w) (by kernel_rfl) (by kernel_rfl) (by kernel_rfl) (by kernel_rfl) hs ?_ (Below.refl _ _).drew (fun w w' h hb => h.trans (hb.mono h.size)) ?_ ?_ ?_
  · intro p hp
    simp only [List.mem_cons, List.not_mem_nil, or_false] at hp
    rcases hp with rfl | rfl | rfl | rfl | rfl | rfl | rfl | rfl | rfl | rfl | rfl
    all_goals first | exact isV.stays _ | exact NT.stays _ _
  · intro i o j b hi ho hg v w hv
    have hi' : i < 11 := hi
    have hor : i = 0 ∨ i = 1 ∨ i = 2 ∨ i = 3 ∨ i = 4 ∨ i = 5 ∨ i = 6 ∨ i = 7 ∨ i = 8 ∨ i = 9 ∨ i = 10 := by omega
    rcases hor with rfl | rfl | rfl | rfl | rfl | rfl | rfl | rfl | rfl | rfl | rfl
    all_goals
      obtain rfl := Option.some.inj (show ops5[_]? = some o from ho)
      cases hg
  · intro i o' a w hi ho hC hF hdep
    have f3 : slot a 3 = .pointer (some ⟨gb, 0, none⟩) := (hF 3 (by decide)).trans h3
    have f6 : slot a 6 = .pointer (some ⟨gi, 0, none⟩) := (hF 6 (by decide)).trans h6
    have f8 : slot a 8 = .int .i64 f := (hF 8 (by decide)).trans h8
    have hcB : ∀ i, i < 4 → w.cell? ⟨gb, i, none⟩ = some (.int .u64 (W4 B i)) := fun i hi => (hC.cell (p := ⟨gb, i, none⟩) hgb).trans (hcb i hi)
    have hcI : w.cell? ⟨gi, 5, none⟩ = some (.int .i64 e) := (hC.cell (p := ⟨gi, 5, none⟩) hgi).trans hci
    have hi' : i < 11 := hi
    have hor : i = 0 ∨ i = 1 ∨ i = 2 ∨ i = 3 ∨ i = 4 ∨ i = 5 ∨ i = 6 ∨ i = 7 ∨ i = 8 ∨ i = 9 ∨ i = 10 := by omega
    rcases hor with rfl | rfl | rfl | rfl | rfl | rfl | rfl | rfl | rfl | rfl | rfl
    · obtain rfl := Option.some.inj (show ops5[0]? = some o' from ho)
      exact op_ld24 f3 hcB ⟨_, rfl, rfl, Below.refl _ _⟩
    · obtain rfl := Option.some.inj (show ops5[1]? = some o' from ho)
      exact op_mv f8 ⟨_, rfl, rfl, Below.refl _ _⟩
    · obtain rfl := Option.some.inj (show ops5[2]? = some o' from ho)
      refine op_c26z (hdep ⟨0, .data⟩ (by simp) rfl : slot a 25 = A4 B) (hdep ⟨1, .data⟩ (by simp) rfl : slot a 26 = .int .i64 f) ((c0 w).mono ?_)
      rintro e w' ⟨r, rfl, hr, hb⟩
      exact ⟨_, rfl, _, rfl, hr, hb⟩
    · obtain rfl := Option.some.inj (show ops5[3]? = some o' from ho)
      exact op_ld24 f3 hcB ⟨_, rfl, rfl, Below.refl _ _⟩
    · obtain rfl := Option.some.inj (show ops5[4]? = some o' from ho)
      exact op_mv f8 ⟨_, rfl, rfl, Below.refl _ _⟩
    · obtain rfl := Option.some.inj (show ops5[5]? = some o' from ho)
      exact op_fa5 f6 ⟨_, rfl, rfl, Below.refl _ _⟩
    · obtain rfl := Option.some.inj (show ops5[6]? = some o' from ho)
      exact op_ld (hdep ⟨5, .data⟩ (by simp) rfl : slot a 30 = .pointer (some ⟨gi, 5, none⟩)) hcI ⟨_, rfl, rfl, Below.refl _ _⟩
    · obtain rfl := Option.some.inj (show ops5[7]? = some o' from ho)
      refine op_c26 (hdep ⟨3, .data⟩ (by simp) rfl : slot a 28 = A4 B) (hdep ⟨4, .data⟩ (by simp) rfl : slot a 29 = .int .i64 f) (hdep ⟨6, .data⟩ (by simp) rfl : slot a 31 = .int .i64 e) ((c1 w).mono ?_)
      rintro e w' ⟨r, rfl, hr, hb⟩
      exact ⟨_, rfl, _, rfl, hr, hb⟩
    · obtain rfl := Option.some.inj (show ops5[8]? = some o' from ho)
      have hv := (hdep ⟨7, .data⟩ (by simp) rfl : NT 19 (En) (slot a 32) w)
      refine op_c27 rfl ((number_nv hv.nv (by decide) hE).mono ?_)
      rintro e w' ⟨rfl, rfl⟩
      exact ⟨_, rfl, _, rfl, rfl, Below.refl _ _⟩
    · obtain rfl := Option.some.inj (show ops5[9]? = some o' from ho)
      have hv := (hdep ⟨2, .data⟩ (by simp) rfl : NT 19 Fr (slot a 27) w)
      exact op_as rfl ⟨_, rfl, hv, Below.refl _ _⟩
    · obtain rfl := Option.some.inj (show ops5[10]? = some o' from ho)
      exact op_as (hdep ⟨8, .data⟩ (by simp) rfl : slot a 33 = .int .i64 (En : Int)) ⟨_, rfl, rfl, Below.refl _ _⟩
  · intro a w hC hsz hdf hF hR
    exact hQ a w _ (hR 9 (by decide)) rfl (hR 10 (by decide)) hsz hdf (fun t ht => hF t ht) hC
end Go.Proofs.YtplocajjfoiklaaGreatDoor
