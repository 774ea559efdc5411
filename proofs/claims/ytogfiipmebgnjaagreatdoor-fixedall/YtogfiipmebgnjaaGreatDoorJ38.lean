/-
  Texts that the proof leans on, joined: Ou, Fk, Fn, Fo, Fe, Sl8, Ff.
-/
import Derived.Test.YtogfiipmebgnjaaGreatDoorJ31
import Derived.Test.YtogfiipmebgnjaaGreatDoorJ11
import Derived.Test.YtogfiipmebgnjaaGreatDoorJ37
import Derived.Test.YtogfiipmebgnjaaGreatDoorJ1
import Derived.Test.YtogfiipmebgnjaaGreatDoorJ35
import Derived.Test.YtogfiipmebgnjaaGreatDoorJ34
import Derived.Test.YtogfiipmebgnjaaGreatDoorJ21
import Derived.Test.YtogfiipmebgnjaaGreatDoorJ30
import Derived.Test.YtogfiipmebgnjaaGreatDoorJ27
import Derived.Test.YtogfiipmebgnjaaGreatDoorJ16
import Derived.Test.YtogfiipmebgnjaaGreatDoorJ28
import Derived.Deep.Cut
import Derived.Deep.CutRange
import Derived.Test.YtogfiipmebgnjaaGreatDoorJ33
set_option linter.unusedVariables false
set_option linter.unusedSectionVars false
set_option linter.unusedSimpArgs false
set_option maxRecDepth 20000
namespace Go.Proofs.YtogfiipmebgnjaaGreatDoor
open Go.RowKit

section
variable {P : Program} {ops : Array Oper} {Q : Exit → Act → World → Prop} {md : Region.Mode}
def invR (md : Region.Mode) (ops : Array Oper) (n : Nat) : Bool :=
  Region.sinkB md ops n && chainC md ops n && decide (n < ops.size) && backB md ops n && restB md ops n
theorem rest_of {n : Nat} {l : List Oper} {a : Act} {w : World} (hn : n < l.length) (hR : restB .any l.toArray n = true) (hQ : ∀ c a d v w, Q (.panic c) (Act.put a d v) w → Q (.panic c) a w) (h : wpList P l.toArray Q (l.drop n) a w) : wpAny P .any l.toArray Q (l.drop n).length (fdone n l.toArray.size) a w := by
  have hsz : l.toArray.size = l.length := by simp
  simp only [restB, Bool.and_eq_true, List.isEmpty_iff] at hR
  obtain ⟨⟨hsel, hall⟩, hend⟩ := hR
  exact wpAny_rest (P := P) (md := .any) (Q := Q) hsel hQ hend (l.drop n) n a w (fun j => by simp [List.getElem?_drop]) (by simp; omega) (fun j hj1 hj2 => by
    have h5 := List.all_eq_true.1 hall (j - n) (List.mem_range.2 (by omega))
    rw [show n + (j - n) = j by omega] at h5
    simp only [Bool.or_eq_true, Bool.and_eq_true, decide_eq_true_eq] at h5
    rcases h5 with h5 | ⟨⟨h5, h6⟩, h7⟩
    · exact Or.inl h5
    · refine Or.inr ⟨h5, h6, ?_⟩
      cases ho : l.toArray[j]? with
      | none => rw [ho] at h7; cases h7
      | some o =>
        rw [ho] at h7
        simp only [Option.map_some, Option.getD_some, Bool.and_eq_true, Option.isNone_iff_eq_none] at h7
        exact ⟨o, rfl, h7.1, h7.2⟩) h
theorem wpAny_inv4 {n : Nat} {B : (Nat → Prop) → Act → World → Prop} {l : List Oper} (hs : Region.sinkB .any l.toArray n = true) (hc : chainC .any l.toArray n = true) (hn : n < l.toArray.size) (hb : backB .any l.toArray n = true) (hR : restB .any l.toArray n = true) (hQ : ∀ c a d v w, Q (.panic c) (Act.put a d v) w → Q (.panic c) a w)
    (hstep : ∀ (L : Nat → Prop) i o a w, i < n → l.toArray[i]? = some o → ¬ L i → (∀ j oj, l.toArray[j]? = some oj → L j → ∀ e ∈ oj.after, Region.binds .any e = true → L e.on) → (∀ e ∈ o.after, Region.binds .any e = true → L e.on) → B L a w → wpOp P l.toArray Q i (fun a' w' => B (fun j => L j ∨ j = i) a' w') a w)
    (hend : ∀ (L : Nat → Prop) a w, (∀ i, i < n → L i) → B L a w → wpList P l.toArray Q (l.drop n) a w) :
    ∀ (f : Nat) (listed : Array Bool) (a : Act) (w : World), HeadInv .any l.toArray n listed → toCome listed n = f → B (fun j => listed.getD j false = true) a w → wpAny P .any l.toArray Q (f + (l.drop n).length) listed a w
  | 0, listed, a, w, inv, hf, hB => by
    have hz := toCome_zero n hf
    have he := headDone_eq (Nat.le_of_lt hn) inv hz
    have hw := hend _ a w (fun i hi => getD_true_in (by rw [inv.size]; omega) (hz i hi)) hB
    rw [Nat.zero_add, he]
    exact rest_of (by simpa using hn) hR hQ hw
  | f + 1, listed, a, w, inv, hf, hB => by
    obtain ⟨k, hk, hku, hkl⟩ := toCome_least (listed := listed) n (by omega)
    rw [show f + 1 + (l.drop n).length = (f + (l.drop n).length) + 1 by omega]
    refine ⟨fun h0 => ?_, fun i hi => ?_⟩
    · obtain ⟨o, ho, hlt⟩ := backB_spec hb k hk
      have : k ∈ Region.ready .any l.toArray listed := mem_ready.2 ⟨hku, o, ho, fun e he hbd => by
        have := hlt e he hbd
        exact getD_true_in (by rw [inv.size]; omega) (hkl _ this)⟩
      rw [h0] at this; cases this
    · have hin : i < n := by
        rcases Nat.lt_or_ge i n with h | h
        · exact h
        · exact absurd hi (waits_tail hs hc hn inv hk hku i h)
      obtain ⟨hu, o, ho, hall⟩ := mem_ready.1 hi
      refine wpOp_mono (fun a' w' h3 => ?_) (hstep (fun j => listed.getD j false = true) i o a w hin ho (by show ¬ (listed.getD i false = true); rw [getD_both hu]; decide) inv.closed hall hB)
      refine wpAny_inv4 hs hc hn hb hR hQ hstep hend f _ a' w' (inv.set hi hin) (by have := toCome_set hu n hin; omega) ?_
      rw [listed_set (by rw [inv.size]; omega)]
      exact h3
theorem wp_region_inv4 (n : Nat) (B : (Nat → Prop) → Act → World → Prop) {id : Nat} {l : List Oper} {a : Act} {w : World} (hm : P.follows .mixedOrders = true) (hI : invR .any l.toArray n = true) (hQ : ∀ c a d v w, Q (.panic c) (Act.put a d v) w → Q (.panic c) a w)
    (h0 : B (fun _ => False) a w.drew)
    (hstep : ∀ (L : Nat → Prop) i o a w, i < n → l[i]? = some o → ¬ L i → (∀ j oj, l[j]? = some oj → L j → ∀ e ∈ oj.after, Region.binds .any e = true → L e.on) → (∀ e ∈ o.after, Region.binds .any e = true → L e.on) → B L a w → wpOp P l.toArray Q i (fun a' w' => B (fun j => L j ∨ j = i) a' w') a w)
    (hend : ∀ (L : Nat → Prop) a w, (∀ i, i < n → L i) → B L a w → wpList P l.toArray Q (l.drop n) a w) : (Code.region id l.toArray true).wp P Q a w := by
  simp only [invR, Bool.and_eq_true, decide_eq_true_eq] at hI
  obtain ⟨⟨⟨⟨hs, hc⟩, hn⟩, hb⟩, hR⟩ := hI
  have hdl : (l.drop n).length = l.toArray.size - n := by simp
  refine wp_region_any hm ?_
  have hf0 : (fun j => (Array.replicate l.toArray.size false).getD j false = true) = fun _ => False := by
    funext j
    rw [getD_replicate_false]
    simp
  have H := wpAny_inv4 (P := P) (Q := Q) (n := n) (B := B) (l := l) hs hc hn hb hR hQ
    (fun L i o a w hi ho hL hcl he hB => hstep L i o a w hi (by simpa using ho) hL (fun j oj hj => hcl j oj (by simpa using hj)) he hB) hend n (Array.replicate l.toArray.size false) a w.drew
    ⟨by simp, fun j oj _ hl => (by rw [getD_replicate_false] at hl; cases hl), fun t _ ht => getD_in (by simpa using ht) (getD_replicate_false _ _)⟩
    (toCome_replicate _ n (by simpa using Nat.le_of_lt hn)) (by rw [hf0]; exact h0)
  rw [hdl] at H
  have : n + (l.toArray.size - n) = l.toArray.size := by omega
  rw [this] at H
  exact H
theorem wp_region_memr (n m : Nat) (D : List Nat) (S : List (Value → World → Prop)) (T : World → World → Prop) (M : (Nat → Prop) → (Nat → Value) → World → Prop) {id : Nat} {l : List Oper} {a0 : Act} {w0 : World} (hm : P.follows .mixedOrders = true) (hI : invR .any l.toArray n = true) (hQ : ∀ c a d v w, Q (.panic c) (Act.put a d v) w → Q (.panic c) a w) (hD : dstM l D n m = true)
    (hsz : a0.tmps.size = m) (hS : ∀ p ∈ S, ∀ v w w', p v w → T w w' → p v w') (hM0 : M (fun _ => False) (slot a0) w0.drew)
    (hstep : ∀ (L : Nat → Prop) i o a w, i < n → l[i]? = some o → ¬ L i → (∀ j oj, l[j]? = some oj → L j → ∀ e ∈ oj.after, Region.binds .any e = true → L e.on) → (∀ e ∈ o.after, Region.binds .any e = true → L e.on) → M L (slot a) w →
      (∀ t, (∀ i, i < n → D.getD i 0 ≠ t) → slot a t = slot a0 t) → (∀ j, j < n → wrS l D j → L j → (S.getD j fun _ _ => True) (slot a (D.getD j 0)) w) →
      o.wp P a w (fun a' w' => ∃ v, a' = a.put o.dst v ∧ (S.getD i fun _ _ => True) v w' ∧ T w w' ∧ M (fun j => L j ∨ j = i) (fun t => if o.dst = some t then v else slot a t) w') Q)
    (hend : ∀ (L : Nat → Prop) a w, (∀ i, i < n → L i) → M L (slot a) w → a.tmps.size = m → a.defers = a0.defers → (∀ t, (∀ i, i < n → D.getD i 0 ≠ t) → slot a t = slot a0 t) → (∀ i, i < n → wrS l D i → (S.getD i fun _ _ => True) (slot a (D.getD i 0)) w) → wpList P l.toArray Q (l.drop n) a w) :
    (Code.region id l.toArray true).wp P Q a0 w0 := by
  have hSt : ∀ i v w w', (S.getD i fun _ _ => True) v w → T w w' → (S.getD i fun _ _ => True) v w' := by
    intro i
    rcases Nat.lt_or_ge i S.length with h | h
    · rw [List.getD_eq_getElem?_getD, List.getElem?_eq_getElem h]; exact hS _ (List.getElem_mem h)
    · rw [List.getD_eq_getElem?_getD, List.getElem?_eq_none h]; exact fun _ _ _ _ _ => trivial
  refine wp_region_inv4 n (fun L a w => M L (slot a) w ∧ a.tmps.size = m ∧ a.defers = a0.defers ∧ (∀ t, (∀ i, i < n → D.getD i 0 ≠ t) → slot a t = slot a0 t) ∧ ∀ j, j < n → wrS l D j → L j → (S.getD j fun _ _ => True) (slot a (D.getD j 0)) w) hm hI hQ
    ⟨hM0, hsz, rfl, fun _ _ => rfl, fun _ _ _ h => h.elim⟩ ?_ (fun L a w hL hB => hend L a w hL hB.1 hB.2.1 hB.2.2.1 hB.2.2.2.1 fun i hi hw => hB.2.2.2.2 i hi hw (hL i hi))
  intro L i o a w hi ho hL hcl he hB
  obtain ⟨hd, hg, hne⟩ := dstM_spec hD i hi o ho
  have hw := hstep L i o a w hi ho hL hcl he hB.1 hB.2.2.2.1 hB.2.2.2.2
  unfold wpOp
  have ho' : l.toArray[i]? = some o := by simpa using ho
  simp only [ho']
  rw [if_pos (by unfold Region.wanted; rw [hg])]
  refine Or.inl (Oper.wp_mono ?_ hw)
  rintro a' w' ⟨v, rfl, hv, hT, hM⟩
  rcases hd with hd | ⟨hd, hlt⟩
  · have ea : a.put o.dst v = a := by rw [hd]; rfl
    have em : (fun t => if o.dst = some t then v else slot a t) = slot a := by funext t; rw [hd]; simp
    rw [ea]
    rw [em] at hM
    refine ⟨hM, hB.2.1, hB.2.2.1, hB.2.2.2.1, fun j hj hwj hLj => ?_⟩
    rcases hLj with hLj | rfl
    · exact hSt j _ _ _ (hB.2.2.2.2 j hj hwj hLj) hT
    · unfold wrS at hwj; rw [ho] at hwj; simp [hd] at hwj
  · have em : (fun t => if o.dst = some t then v else slot a t) = slot (a.put o.dst v) := by
      funext t
      rw [hd]
      by_cases h : D.getD i 0 = t
      · subst h
        rw [if_pos rfl, slot_put (by rw [hB.2.1]; exact hlt)]
      · rw [if_neg (fun e => h (Option.some.inj e)), slot_put_ne h]
    rw [em] at hM
    refine ⟨hM, by rw [hd]; simp [Act.put, hB.2.1], by rw [hd]; exact hB.2.2.1, fun t ht => ?_, fun j hj hwj hLj => ?_⟩
    · rw [hd, slot_put_ne (ht i hi)]; exact hB.2.2.2.1 t ht
    · by_cases hji : j = i
      · subst hji
        rw [hd, slot_put (by rw [hB.2.1]; exact hlt)]; exact hv
      · rw [hd, slot_put_ne (fun h => hne j hj hji h.symm)]
        exact hSt j _ _ _ (hB.2.2.2.2 j hj hwj (hLj.resolve_right hji)) hT
end
end Go.Proofs.YtogfiipmebgnjaaGreatDoor

namespace Go.Proofs.YtogfiipmebgnjaaGreatDoor
open Go.RowKit

theorem npow10z (m : Nat) (w : World) (hm : m ≤ 12000) : Calls Tryz.prog 107 #[.int .i64 10, .int .i64 (m : Int)] w fun r w' => ∃ v, r = .returned (.tuple #[v, .int .i64 0]) ∧ NT 2001 (10 ^ m) v w' ∧ Below w.heap.size w w' := by
  refine (npow_any 10 m w (Or.inr rfl) hm).mono fun r w' ⟨g, k, cap, z, e1, hk, hN, hv, hs, hB⟩ => ⟨_, e1, ⟨g, k, cap, z, rfl, hk, hN, ?_, hs⟩, hB⟩
  rw [hv]; simp
attribute [local irreducible] W4 Nz Nt NT
set_option maxHeartbeats 1000000 in
theorem ten_v (m : Nat) (w : World) (hm : m ≤ 12000) : Calls Tryz.prog 61 #[.int .i64 (m : Int)] w fun r w' => ∃ v, r = .returned v ∧ NT 2001 (10 ^ m) v w' ∧ Below w.heap.size w w' := by
  have c1 := fun W => npow10z m W hm
  go_enter Tryz.func61, Tryz.ntmps61
  go_wp2_with (go_at_call 107; refine (c1 _).mono ?_; rintro r w1 ⟨v, rfl, hv, hb1⟩)
  go_ret
  exact ⟨v, rfl, hv, hb1⟩
set_option maxHeartbeats 1000000 in
theorem fives_w (n a b : Int) (A B : Nat) (w : World) (hn : 0 ≤ n ∧ n ≤ 20000) (ha : n / 2 = a) (hb : n - a = b) (hbl : bl A + bl B ≤ 127000)
    (c1 : ∀ W, Calls Tryz.prog 107 #[.int .i64 5, .int .i64 a] W fun r w' => ∃ v, r = .returned (.tuple #[v, .int .i64 0]) ∧ NT 2001 A v w' ∧ Below W.heap.size W w')
    (c2 : ∀ W, Calls Tryz.prog 107 #[.int .i64 5, .int .i64 b] W fun r w' => ∃ v, r = .returned (.tuple #[v, .int .i64 0]) ∧ NT 2001 B v w' ∧ Below W.heap.size W w') :
    Calls Tryz.prog 77 #[.int .i64 n] w fun r w' => ∃ v, r = .returned v ∧ NT 2001 (A * B) v w' ∧ Below w.heap.size w w' := by
  subst hb ha
  have hn1 : n ≤ 9223372036854775807 := by omega
  go_enter Tryz.func77, Tryz.ntmps77
  go_wp2_with (first
    | (go_at_call 62; refine (nmul_w (by decide) (by decide) (hv1.next hb2).nt hv2.nt hbl).mono ?_; rintro r w3 ⟨v3, rfl, hv3, hb3⟩)
    | (have := hv1; go_at_call 107; refine (c2 _).mono ?_; rintro r w2 ⟨v2, rfl, hv2, hb2⟩)
    | (go_at_call 107; refine (c1 _).mono ?_; rintro r w1 ⟨v1, rfl, hv1, hb1⟩))
  go_ret
  exact ⟨v3, rfl, hv3, bnx (bnx hb1 hb2) hb3⟩
theorem five_le (m : Nat) : bl (5 ^ m) ≤ 3 * m + 1 := bl_le.2 (by
  have a1 : 5 ^ m ≤ (2 ^ 3) ^ m := Nat.pow_le_pow_left (by decide) _
  rw [← Nat.pow_mul] at a1
  exact Nat.lt_of_le_of_lt a1 (Nat.pow_lt_pow_succ (by decide)))
theorem fives_v (m : Nat) (w : World) (hm : m ≤ 20000) : Calls Tryz.prog 77 #[.int .i64 (m : Int)] w fun r w' => ∃ v, r = .returned v ∧ NT 2001 (5 ^ m) v w' ∧ Below w.heap.size w w' := by
  have e : 5 ^ m = 5 ^ (m / 2) * 5 ^ (m - m / 2) := by rw [← Nat.pow_add]; congr 1; omega
  rw [e]
  have b1 := five_le (m / 2)
  have b2 := five_le (m - m / 2)
  exact fives_w m ((m / 2 : Nat) : Int) ((m - m / 2 : Nat) : Int) _ _ w (by omega) (by omega) (by omega) (by omega) (fun W => npow5z (m / 2) W (by omega)) (fun W => npow5z (m - m / 2) W (by omega))
set_option maxHeartbeats 1000000 in
theorem fnone_v (c : Int) (s g : Bool) (x : Int) (k : Nat) (w : World) (hk : k < 2 ^ 256) : Calls Tryz.prog 32 #[DV c s g x k] w fun r w' => r = .returned (.bool (decide (k = 0))) ∧ Below w.heap.size w w' := by
  have h24 := eq24 (W4 k 0) (W4 k 1) (W4 k 2) (W4 k 3) 0 0 0 0
  rw [W4_none hk] at h24
  have hsm := cell_set_map
  unfold DV
  go_enter Tryz.func32, Tryz.ntmps32
  go_wp2
  go_ret
  exact ⟨rfl, bgo⟩
noncomputable def opsW2 : List Oper := (Tryz.f33.body.bind (findR 2)).getD []
def slotsW2 : List Nat := [8, 9, 10, 11, 12, 13, 14]
def slotsAW2 : List Nat := [8, 9, 10, 11, 12, 13, 14, 7, 15, 16, 2]
theorem put_size {a : Act} {d : Nat} {v : Value} : (a.put (some d) v).tmps.size = a.tmps.size := by simp [Act.put]
def TU2 (X : Nat) (v : Value) (w : World) : Prop := ∃ q, v = .tuple #[q, .int .i64 0] ∧ NT 2001 X q w
theorem TU2.next {X : Nat} {v : Value} {w w' : World} (h : TU2 X v w) (hb : Below w.heap.size w w') : TU2 X v w' := by
  obtain ⟨q, e, hq⟩ := h
  exact ⟨q, e, hq.next hb⟩
theorem regW2 {h1 k F X : Nat} {x : Int} {a0 : Act} {ws : World} {Q : Exit → Act → World → Prop} (hP : ∀ c a d v w, Q (.panic c) (Act.put a d v) w → Q (.panic c) a w) (hs : a0.tmps.size = 29) (g1 : slot a0 1 = .pointer (some ⟨h1, 0, none⟩)) (hx : -1000000 ≤ x ∧ x ≤ 1000000) (hlt : h1 < ws.heap.size) (k3 : ws.cell? ⟨h1, 3, none⟩ = some (.int .i64 x))
    (c1 : ∀ W, Calls Tryz.prog 77 #[.int .i64 (-x)] W fun e w' => ∃ v, e = .returned v ∧ NT 2001 F v w' ∧ Below W.heap.size W w')
    (c2 : ∀ W p, Below ws.heap.size ws W → NT 2001 F p W → Calls Tryz.prog 62 #[.slice (some ⟨h1, 4, none⟩) 4 4, p] W fun e w' => ∃ u, e = .returned (.tuple #[u, .int .i64 0]) ∧ NT 2001 X u w' ∧ Below W.heap.size W w')
    (hQ : ∀ (a : Act) (w : World) (u : Value), slot a 2 = u → NT 2001 X u w → a.tmps.size = 29 → a.defers = a0.defers → (∀ t, (∀ i, i < 11 → slotsAW2.getD i 0 ≠ t) → slot a t = slot a0 t) → Below ws.heap.size ws w → Q .normal a w) :
    (Code.region 2 opsW2.toArray true).wp Tryz.prog Q a0 ws := by
  refine wp_region_memr 7 29 slotsW2 [iW (.pointer (some ⟨h1, 4, none⟩)), iW (.slice (some ⟨h1, 4, none⟩) 4 4), iW (.pointer (some ⟨h1, 3, none⟩)), iW (.int .i64 x), iW (.int .i64 (-x)), NT 2001 F, TU2 X] (fun w w' => Below w.heap.size w w') (fun L f w => Below ws.heap.size ws w) (by kernel_rfl) (by kernel_rfl) hP (by kernel_rfl) hs ?_ (Below.refl _ _).drew ?_ ?_
  · intro p hp
    simp only [List.mem_cons, List.not_mem_nil, or_false] at hp
    rcases hp with rfl | rfl | rfl | rfl | rfl | rfl | rfl
    all_goals first | exact fun _ _ _ h _ => h | exact fun _ _ _ h hb => h.next hb
  · intro L i o a w hi ho hL hcl he hM hF hv
    have f1 : slot a 1 = .pointer (some ⟨h1, 0, none⟩) := (hF 1 (by decide)).trans g1
    have hor : i = 0 ∨ i = 1 ∨ i = 2 ∨ i = 3 ∨ i = 4 ∨ i = 5 ∨ i = 6 := by omega
    rcases hor with rfl | rfl | rfl | rfl | rfl | rfl | rfl
    · obtain rfl := Option.some.inj (show opsW2[0]? = some o from ho)
      exact og_fad4 f1 ⟨_, rfl, rfl, Below.refl _ _, hM⟩
    · obtain rfl := Option.some.inj (show opsW2[1]? = some o from ho)
      exact og_sl4 (hv 0 (by decide) rfl (he ⟨0, .data⟩ (by simp) rfl) : slot a 8 = .pointer (some ⟨h1, 4, none⟩)) ⟨_, rfl, rfl, Below.refl _ _, hM⟩
    · obtain rfl := Option.some.inj (show opsW2[2]? = some o from ho)
      exact og_fad3 f1 ⟨_, rfl, rfl, Below.refl _ _, hM⟩
    · obtain rfl := Option.some.inj (show opsW2[3]? = some o from ho)
      exact og_ld3 (hv 2 (by decide) rfl (he ⟨2, .data⟩ (by simp) rfl) : slot a 10 = .pointer (some ⟨h1, 3, none⟩)) ((hM.cell (p := ⟨h1, 3, none⟩) hlt).trans k3) ⟨_, rfl, rfl, Below.refl _ _, hM⟩
    · obtain rfl := Option.some.inj (show opsW2[4]? = some o from ho)
      exact og_neg hx (hv 3 (by decide) rfl (he ⟨3, .data⟩ (by simp) rfl) : slot a 11 = .int .i64 x) ⟨_, rfl, rfl, Below.refl _ _, hM⟩
    · obtain rfl := Option.some.inj (show opsW2[5]? = some o from ho)
      refine og_c1 (by simp [go_sem]) (hv 4 (by decide) rfl (he ⟨4, .data⟩ (by simp) rfl) : slot a 12 = .int .i64 (-x)) ((c1 w).mono ?_)
      rintro e w' ⟨v, rfl, hSv, hb⟩
      exact ⟨v, rfl, _, rfl, hSv, hb, bnx hM hb⟩
    · obtain rfl := Option.some.inj (show opsW2[6]? = some o from ho)
      refine og_c2 (by simp [go_sem]) (hv 1 (by decide) rfl (he ⟨1, .data⟩ (by simp) rfl) : slot a 9 = .slice (some ⟨h1, 4, none⟩) 4 4) rfl ((c2 w _ hM (hv 5 (by decide) rfl (he ⟨5, .data⟩ (by simp) rfl))).mono ?_)
      rintro e w' ⟨v, rfl, hSv, hb⟩
      exact ⟨_, rfl, _, rfl, ⟨v, rfl, hSv⟩, hb, bnx hM hb⟩
  · intro L a w hL hM hsz hdf hF hv
    obtain ⟨q, e, hq⟩ := (hv 6 (by decide) rfl : TU2 X (slot a 14) w)
    refine BigFrame.wpList_want rfl fun K hK => og_mv e (hK _ _ ?_)
    clear K hK
    refine BigFrame.wpList_want rfl fun K hK => og_ext (slot_put (by omega)) rfl (hK _ _ ?_)
    clear K hK
    refine BigFrame.wpList_want rfl fun K hK => og_ext ((slot_put_ne (by decide)).trans (slot_put (by omega))) rfl (hK _ _ ?_)
    clear K hK
    refine BigFrame.wpList_want rfl fun K hK => og_as ((slot_put_ne (by decide)).trans (slot_put (by rw [put_size]; omega))) (hK _ _ ?_)
    clear K hK
    refine hQ _ _ q (slot_put (by simp only [put_size]; omega)) hq (by simp only [put_size]; exact hsz) hdf (fun t ht => ?_) hM
    rw [slot_put_ne (show 2 ≠ t from ht 10 (by decide)), slot_put_ne (show 16 ≠ t from ht 9 (by decide)), slot_put_ne (show 15 ≠ t from ht 8 (by decide)), slot_put_ne (show 7 ≠ t from ht 7 (by decide))]
    exact hF t fun i hi => by
      have := ht i (by omega)
      have hor : i = 0 ∨ i = 1 ∨ i = 2 ∨ i = 3 ∨ i = 4 ∨ i = 5 ∨ i = 6 := by omega
      rcases hor with rfl | rfl | rfl | rfl | rfl | rfl | rfl <;> exact this
section
variable (c : Int) (s g : Bool) (x : Int) (k : Nat) (w : World) (hk : k < 2 ^ 256) (hx : -17000 ≤ x ∧ x ≤ 17000)
include hk hx
set_option maxHeartbeats 2000000 in
theorem whole_n (F : Nat) (hF : bl k + bl F ≤ 127000) (h : x < 0) (c1 : ∀ W, Calls Tryz.prog 77 #[.int .i64 (-x)] W fun r w' => ∃ v, r = .returned v ∧ NT 2001 F v w' ∧ Below W.heap.size W w') :
    Calls Tryz.prog 33 #[DV c s g x k] w fun r w' => ∃ v, r = .returned (.tuple #[v, .int .i64 x]) ∧ NT 2001 (k * F) v w' ∧ Below w.heap.size w w' := by
  have hsm := cell_set_map
  have hn0 : Nt 4 k (.slice (some ⟨w.heap.size, 4, none⟩) 4 4) (w.alloc (.cells #[.int .i64 c, .bool s, .bool g, .int .i64 x, .int .u64 (W4 k 0), .int .u64 (W4 k 1), .int .u64 (W4 k 2), .int .u64 (W4 k 3)] 34)) := nt_at hk (by simp) (by go_simp) (by go_simp) (by go_simp) (by go_simp)
  have hb0 := below1 w (.cells #[.int .i64 c, .bool s, .bool g, .int .i64 x, .int .u64 (W4 k 0), .int .u64 (W4 k 1), .int .u64 (W4 k 2), .int .u64 (W4 k 3)] 34)
  unfold DV
  go_enter Tryz.func33, Tryz.ntmps33
  go_wp2
  refine regW2 (h1 := w.heap.size) (k := k) (F := F) (X := k * F) (x := x) (fun _ _ d _ _ h => by cases d <;> exact h) rfl rfl (by omega) (by simp) (by go_simp) c1 (fun W p hW hp => nmul_w (by decide) (by decide) (hn0.next hW) hp.nt hF) ?_
  intro a' w2 v2 h2 hv2 hsz hdf hF2 hb2
  have ha := act_of slotsAW2 11 rfl hsz hdf hF2
  rw [ha]
  simp only [slotsAW2, List.foldl_cons, List.foldl_nil, Act.put, List.setIfInBounds_toArray, List.set_cons_succ, List.set_cons_zero, h2]
  generalize slot a' 8 = s8
  generalize slot a' 9 = s9
  generalize slot a' 10 = s10
  generalize slot a' 11 = s11
  generalize slot a' 12 = s12
  generalize slot a' 13 = s13
  generalize slot a' 14 = s14
  generalize slot a' 7 = s7
  generalize slot a' 15 = s15
  generalize slot a' 16 = s16
  clear ha h2 hsz hdf hF2 hn0 hb0
  obtain ⟨hc2, hf2⟩ := bcell hb2; have hz2_0 : w.heap.size < w2.heap.size := lt_below hb2 ltg; have hl2_0 := Nat.le_of_lt hz2_0; have hA2 := bnext (w0 := w) bgo hb2; have hs2 := hA2.size; clear hb2
  have k3 : w2.cell? ⟨w.heap.size, 3, none⟩ = some (.int .i64 x) := by go_simp
  go_wp2
  refine wp_tail 4 (by kernel_rfl) (by kernel_rfl) (by kernel_rfl) (fun _ _ d _ _ h => by cases d <;> exact h) fun hne hcell => ?_
  simp only [List.take_succ_cons, List.take_zero, List.drop_succ_cons, List.drop_zero]
  repeat go_big_quiet_step (fail)
  refine wpQuiet_nil fun w4 hb4 => ?_
  have hk4 := hb4
  obtain ⟨hc4, hf4⟩ := bcell hb4; have hz4_0 : w.heap.size < w4.heap.size := lt_below hb4 ltg; have hl4_0 := Nat.le_of_lt hz4_0; have hA4 := bnext (w0 := w) bgo hb4; have hs4 := hA4.size; clear hb4
  go_wp2
  exact bodyPost_ret (v := .tuple #[v2, .int .i64 x]) (by simp only [results, Tryz.results33]; go_simp) rfl ⟨_, rfl, hv2.next hk4, bgo⟩
set_option maxHeartbeats 2000000 in
theorem whole_p (h : ¬ x < 0) :
    Calls Tryz.prog 33 #[DV c s g x k] w fun r w' => ∃ v, r = .returned (.tuple #[v, .int .i64 0]) ∧ NT 2001 (k * 2 ^ x.toNat) v w' ∧ Below w.heap.size w w' := by
  have hbk : bl k ≤ 256 := bl_le.2 hk
  have hsm := cell_set_map
  have c2 : ∀ W v, Nt 4 k v W → Calls Tryz.prog 78 #[v, .int .i64 x] W fun e w' => ∃ r, e = .returned (.tuple #[r, .int .i64 0]) ∧ NT 2001 (k * 2 ^ x.toNat) r w' ∧ Below W.heap.size W w' := fun W v hv => by
    have := nshl_w x.toNat (by decide) hv (show bl k + x.toNat ≤ 127000 by omega)
    rw [Int.toNat_of_nonneg (by omega)] at this
    exact this
  unfold DV
  go_enter Tryz.func33, Tryz.ntmps33
  go_wp2
  go_region_with (go_at_call 78; refine (c2 _ _ (nt_at hk (by simp) (by go_simp) (by go_simp) (by go_simp) (by go_simp))).mono ?_; rintro r w2 ⟨v2, rfl, hv2, hb2⟩; obtain ⟨hc2, hf2⟩ := bcell hb2; have hz2_0 : w.heap.size < w2.heap.size := lt_below hb2 ltg; have hl2_0 := Nat.le_of_lt hz2_0; have hA2 := bnext (w0 := w) bgo hb2; have hs2 := hA2.size; clear hb2)
  go_wp2
  exact bodyPost_ret (v := .tuple #[v2, .int .i64 0]) (by simp only [results, Tryz.results33]; go_simp) rfl ⟨_, rfl, hv2, bgo⟩
end
/-- a number's value as a natural one times a power of ten -/
theorem whole_v (c : Int) (s g : Bool) (x : Int) (k : Nat) (w : World) (hk : k < 2 ^ 256) (hx : -17000 ≤ x ∧ x ≤ 17000) :
    Calls Tryz.prog 33 #[DV c s g x k] w fun r w' => ∃ v, r = .returned (.tuple #[v, .int .i64 (exA x)]) ∧ NT 2001 (exX k x) v w' ∧ Below w.heap.size w w' := by
  have hbk : bl k ≤ 256 := bl_le.2 hk
  unfold exX exA
  by_cases h : 0 ≤ x
  · rw [if_pos h, if_pos h]
    exact whole_p c s g x k w hk hx (by omega)
  · rw [if_neg h, if_neg h]
    have b := five_le (-x).toNat
    refine whole_n c s g x k w hk hx _ (by omega) (by omega) fun W => ?_
    have := fives_v (-x).toNat W (by omega)
    rw [Int.toNat_of_nonneg (by omega)] at this
    exact this
end Go.Proofs.YtogfiipmebgnjaaGreatDoor

namespace Go.Proofs.YtogfiipmebgnjaaGreatDoor
open Go.RowKit

theorem wh_dist (d : Int) (s : Bool) {A Z : Nat} (hZ : 0 < Z) : (whC d s A Z * Z = A ↔ A % Z = 0) ∧ whC d s A Z * Z < A + Z ∧ A < whC d s A Z * Z + Z := by
  have h := Nat.div_add_mod A Z
  have hm := Nat.mod_lt A hZ
  by_cases h0 : A % Z = 0
  · have e : whC d s A Z = A / Z := by unfold whC; rw [h0, fa_none]; rfl
    have e2 : A / Z * Z = A := by rw [Nat.mul_comm]; omega
    rw [e, e2]
    exact ⟨⟨fun _ => h0, fun _ => rfl⟩, by omega, by omega⟩
  · have e2 : A / Z * Z + A % Z = A := by rw [Nat.mul_comm]; exact h
    have e3 : (A / Z + 1) * Z = A / Z * Z + Z := by rw [Nat.add_mul, Nat.one_mul]
    unfold whC
    split
    · rw [e3]
      exact ⟨⟨fun h => by omega, fun h => absurd h h0⟩, by omega, by omega⟩
    · exact ⟨⟨fun h => by omega, fun h => absurd h h0⟩, by omega, by omega⟩
end Go.Proofs.YtogfiipmebgnjaaGreatDoor

namespace Go.Proofs.YtogfiipmebgnjaaGreatDoor
open Go.RowKit

theorem wh_sides (s : Bool) (A Z : Nat) : whC 2 s A Z = whC (loD s) s A Z ∧ ∀ d, whC d s A Z = whC (loD s) s A Z ∨ whC d s A Z = whC (hiD s) s A Z := by
  by_cases h0 : A % Z = 0
  · have e : ∀ d, whC d s A Z = A / Z := fun d => by unfold whC; rw [h0, fa_none]; rfl
    exact ⟨by rw [e, e], fun d => Or.inl (by rw [e, e])⟩
  · have hl : whC (loD s) s A Z = A / Z := by unfold whC; rw [(lo_hi s _ _ _ h0).1]; rfl
    have hh : whC (hiD s) s A Z = A / Z + 1 := by unfold whC; rw [(lo_hi s _ _ _ h0).2.1]; rfl
    have h2 : whC 2 s A Z = A / Z := by unfold whC; rw [(lo_hi s _ _ _ h0).2.2]; rfl
    refine ⟨by rw [hl, h2], fun d => ?_⟩
    rw [hl, hh]
    unfold whC
    split
    · exact Or.inr rfl
    · exact Or.inl rfl
/-- the text's number against the value, both over one denominator: alike just where it is exact, else less than one unit off -/
theorem near_val {k C D : Nat} {x a b : Int} {d : Int} {s : Bool} (hC : C = whC d s (fxA k x a) (fxB x a)) (hb : (b = a ∧ D = C) ∨ (b = a + 1 ∧ D * 10 = C)) :
    (D * 10 ^ b.toNat * 2 ^ (-x).toNat = k * 2 ^ x.toNat * 10 ^ (-b).toNat ↔ fxA k x a % fxB x a = 0) ∧
    (D * 10 ^ b.toNat * 2 ^ (-x).toNat - k * 2 ^ x.toNat * 10 ^ (-b).toNat) * 10 ^ (-b).toNat < 10 ^ (-b).toNat * 2 ^ (-x).toNat * 10 ^ b.toNat ∧
    (k * 2 ^ x.toNat * 10 ^ (-b).toNat - D * 10 ^ b.toNat * 2 ^ (-x).toNat) * 10 ^ (-b).toNat < 10 ^ (-b).toNat * 2 ^ (-x).toNat * 10 ^ b.toNat := by
  obtain ⟨w1, w2, w3⟩ := wh_dist d s (A := fxA k x a) (fxB_pos x a)
  rw [← hC] at w1 w2 w3
  -- over the common denominator: C * Z against A, times p
  have hp : ∃ p, 0 < p ∧ D * 10 ^ b.toNat * 2 ^ (-x).toNat * 10 ^ (-a).toNat = p * (C * fxB x a) ∧ k * 2 ^ x.toNat * 10 ^ (-b).toNat * 10 ^ (-a).toNat = p * fxA k x a ∧ p * fxB x a ≤ 2 ^ (-x).toNat * 10 ^ b.toNat * 10 ^ (-a).toNat := by
    refine ⟨10 ^ (-b).toNat, Nat.pow_pos (by decide), ?_, ?_, ?_⟩
    · unfold fxB
      have key : D * 10 ^ b.toNat * 10 ^ (-a).toNat = C * (10 ^ (-b).toNat * 10 ^ a.toNat) := by
        rcases hb with ⟨rfl, rfl⟩ | ⟨rfl, rfl⟩
        · rw [Nat.mul_assoc, Nat.mul_comm (10 ^ (-b).toNat)]
        · rw [Nat.mul_assoc D 10, Nat.mul_assoc D, ← Nat.pow_add, ← Nat.pow_add]
          congr 1
          rw [show (10 : Nat) * 10 ^ ((-(a + 1)).toNat + a.toNat) = 10 ^ (1 + ((-(a + 1)).toNat + a.toNat)) by rw [Nat.pow_add 10 1, Nat.pow_one]]
          congr 1
          omega
      generalize (10 : Nat) ^ b.toNat = p1 at *
      generalize (10 : Nat) ^ (-a).toNat = p2 at *
      generalize (10 : Nat) ^ (-b).toNat = p3 at *
      generalize (10 : Nat) ^ a.toNat = p4 at *
      generalize (2 : Nat) ^ (-x).toNat = q at *
      calc D * p1 * q * p2 = q * (D * p1 * p2) := by grind
        _ = q * (C * (p3 * p4)) := by rw [key]
        _ = p3 * (C * (q * p4)) := by grind
    · unfold fxA
      grind
    · unfold fxB
      have e : (10 : Nat) ^ (-b).toNat * 10 ^ a.toNat ≤ 10 ^ b.toNat * 10 ^ (-a).toNat ∨ True := Or.inr trivial
      have key : (10 : Nat) ^ (-b).toNat * 10 ^ a.toNat ≤ 10 ^ b.toNat * 10 ^ (-a).toNat := by
        rw [← Nat.pow_add, ← Nat.pow_add]
        refine Nat.pow_le_pow_right (by decide) ?_
        rcases hb with ⟨h, _⟩ | ⟨h, _⟩ <;> omega
      calc 10 ^ (-b).toNat * (2 ^ (-x).toNat * 10 ^ a.toNat) = 2 ^ (-x).toNat * (10 ^ (-b).toNat * 10 ^ a.toNat) := by grind
        _ ≤ 2 ^ (-x).toNat * (10 ^ b.toNat * 10 ^ (-a).toNat) := Nat.mul_le_mul_left _ key
        _ = 2 ^ (-x).toNat * 10 ^ b.toNat * 10 ^ (-a).toNat := by grind
  obtain ⟨p, p0, e1, e2, e3⟩ := hp
  have q0 : 0 < 10 ^ (-a).toNat := Nat.pow_pos (by decide)
  have r0 : 0 < 10 ^ (-b).toNat := Nat.pow_pos (by decide)
  generalize (10 : Nat) ^ (-a).toNat = q at *
  generalize hU : D * 10 ^ b.toNat * 2 ^ (-x).toNat = U at *
  generalize hVv : k * 2 ^ x.toNat * 10 ^ (-b).toNat = Vv at *
  generalize C * fxB x a = CZ at *
  generalize fxA k x a = A at *
  have t1 : p * CZ < p * A + p * fxB x a := by rw [← Nat.mul_add]; exact Nat.mul_lt_mul_of_pos_left w2 p0
  have t2 : p * A < p * CZ + p * fxB x a := by rw [← Nat.mul_add]; exact Nat.mul_lt_mul_of_pos_left w3 p0
  have s1 : U * q < Vv * q + 2 ^ (-x).toNat * 10 ^ b.toNat * q := by omega
  have s2 : Vv * q < U * q + 2 ^ (-x).toNat * 10 ^ b.toNat * q := by omega
  rw [← Nat.add_mul] at s1 s2
  have s1' := Nat.lt_of_mul_lt_mul_right s1
  have s2' := Nat.lt_of_mul_lt_mul_right s2
  refine ⟨?_, ?_, ?_⟩
  · rw [← w1]
    constructor
    · intro h
      rw [h] at e1
      exact Nat.eq_of_mul_eq_mul_left p0 (e1.symm.trans e2)
    · intro h
      rw [h, ← e2] at e1
      exact Nat.eq_of_mul_eq_mul_right q0 e1
  · rw [Nat.mul_assoc, Nat.mul_comm (10 ^ (-b).toNat)]
    exact Nat.mul_lt_mul_of_pos_right (by omega) r0
  · rw [Nat.mul_assoc, Nat.mul_comm (10 ^ (-b).toNat)]
    exact Nat.mul_lt_mul_of_pos_right (by omega) r0
end Go.Proofs.YtogfiipmebgnjaaGreatDoor

namespace Go.Proofs.YtogfiipmebgnjaaGreatDoor
open Go.RowKit

theorem makeB_any (L : Int) (k : Nat) (hL : L = k) (hk : k < 8589934592) (w : World) : (Instr.makeSlice 110 (.int .i64 L) (.int .i64 L)).run Tryz.prog w = .ok (.slice (some ⟨w.heap.size, 0, none⟩) k k) (w.alloc (.cells (Array.replicate k (.int .u8 0)) 5)) := by
  obtain ⟨i0, hi, hz0, hz1, hz2⟩ := info_parts Tryz.info5d
  rw [run_make w 110 5 i0 (.int .u8 0) Tryz.underlying110 hi hz0 .i64 .i64 L L (by omega) (by omega) (by rw [hz2]; omega) (by omega)]
  have e1 : L.toNat = k := by omega
  have e2 : madeCells (Value.int .u8 0).cells k = Array.replicate k (.int .u8 0) := by
    apply Array.ext
    · simp [madeCells, Value.cells]
    · intro i h1 h2
      simp [madeCells, Value.cells, Nat.mod_one]
  rw [e1, hz1, Nat.mul_one, e2]
theorem setB_next {ss : Array Value} {k : Nat} (hss : ∀ j h, ss[j]'h = Value.int .u8 (if j < k then 48 else 0)) (j : Nat) (h : j < (ss.setIfInBounds k (.int .u8 48)).size) : (ss.setIfInBounds k (.int .u8 48))[j]'h = Value.int .u8 (if j < k + 1 then 48 else 0) := by
  have h' : j < ss.size := by simpa using h
  rw [Array.getElem_setIfInBounds]
  by_cases e : k = j
  · rw [if_pos e, if_pos (by omega)]
  · rw [if_neg e, hss j h']
    by_cases hj : j < k
    · rw [if_pos hj, if_pos (by omega)]
    · rw [if_neg hj, if_neg (by omega)]
  exact h'
set_option maxHeartbeats 1000000 in
theorem zeros_v (m : Nat) (hm1 : 1 ≤ m) (hm8 : m ≤ 1000) (w : World) :
    Calls Tryz.prog 28 #[.int .i64 (m : Int)] w fun r w' => r = .returned (.string (B (List.replicate m 48))) ∧ Below w.heap.size w w' := by
  have hi1 : (1 : Int) ≤ m := by omega
  have hi8 : (m : Int) ≤ 1000 := by omega
  have hmk := makeB_any (m : Int) m rfl (by omega) w
  go_enter Tryz.func28, Tryz.ntmps28
  go_wp2
  clear hmk
  go_loopw [9] (fun i wr => ∃ (j : Nat) (ss : Array Value), j ≤ m ∧ i = .int .i64 (j : Int) ∧ ss.size = m ∧ (∀ q h, ss[q]'h = Value.int .u8 (if q < j then 48 else 0)) ∧ wr = w.alloc (.cells ss 5)) (fun i _ => m - (intOf i).toNat)
  case atStart => exact ⟨0, _, Nat.zero_le _, rfl, by simp, by intro q h; simp, rfl⟩
  case round =>
    obtain ⟨j, ss, hj, rfl, hsz, hss, rfl⟩ := hrel
    by_cases h4 : j < m
    · have h4i : (j : Int) < m := by omega
      have h4s : j < ss.size := by omega
      have hsk : ss[j]? = some (.int .u8 0) := by rw [Array.getElem?_eq_getElem h4s, hss j h4s, if_neg (by omega)]
      have HR : Hid (∀ (i : Nat) (h : i < (ss.setIfInBounds j (.int .u8 48)).size), (ss.setIfInBounds j (.int .u8 48))[i]'h = Value.int .u8 (if i < j + 1 then 48 else 0)) := setB_next hss
      clear hss
      go_wp2
      go_roundw
      case rel => exact ⟨j + 1, ss.setIfInBounds j (.int .u8 48), by omega, by go_num, by simp [hsz], HR.out, rfl⟩
      case measure => simp [intOf]; omega
    · obtain rfl : j = m := by omega
      have hcv := run_convert_bytes_arg (P := Tryz.prog) (w.alloc (.cells ss 5)) 110 5 Tryz.underlying110 Tryz.underlying5 w.heap.size 0 j j (List.replicate j 48) (by simp) (fun q hq => by
        rw [Nat.zero_add, World.cell?_alloc_new, Array.getElem?_eq_getElem (by omega), hss q (by omega), if_pos hq]
        simp [hq]) 9 Tryz.underlying9
      have eS : strOfNums (List.replicate j 48) = B (List.replicate j 48) := by
        unfold strOfNums B
        simp
      rw [eS] at hcv
      clear hss eS
      go_wp2
      go_ret
      exact ⟨rfl, (Below.refl _ _).alloc (Nat.le_refl _) _⟩
end Go.Proofs.YtogfiipmebgnjaaGreatDoor

namespace Go.Proofs.YtogfiipmebgnjaaGreatDoor
open Go.RowKit

theorem tn_low {k : Nat} {x E : Int} (hk : k ≠ 0) (hx : -16990 ≤ x) (h : ¬ tnP k x (E + 1)) : -5200 ≤ E := by
  apply Classical.byContradiction
  intro hE
  apply h
  unfold tnP zE oE
  have e1 : (E + 1).toNat = 0 := by omega
  rw [e1, Nat.pow_zero, Nat.mul_one]
  obtain ⟨t, ht⟩ : ∃ t : Nat, t = 5115 := ⟨_, rfl⟩
  obtain ⟨a, ha⟩ : ∃ a : Nat, a = 16990 := ⟨_, rfl⟩
  have h1 : 10 ^ t ≤ 10 ^ (-(E + 1)).toNat := Nat.pow_le_pow_right (by decide) (by omega)
  have h2 : 2 ^ (-x).toNat ≤ 2 ^ a := Nat.pow_le_pow_right (by decide) (by omega)
  have h4 : 2 ^ a ≤ 10 ^ t := two_le_ten (by omega)
  have h5 : 1 ≤ 2 ^ x.toNat := Nat.two_pow_pos _
  have h6 : 1 * 10 ^ (-(E + 1)).toNat ≤ 2 ^ x.toNat * 10 ^ (-(E + 1)).toNat := Nat.mul_le_mul_right _ h5
  have h7 : 1 * (2 ^ x.toNat * 10 ^ (-(E + 1)).toNat) ≤ k * (2 ^ x.toNat * 10 ^ (-(E + 1)).toNat) := Nat.mul_le_mul_right _ (Nat.pos_of_ne_zero hk)
  rw [Nat.mul_assoc]
  exact Nat.mul_le_mul_left 4 (by omega)
end Go.Proofs.YtogfiipmebgnjaaGreatDoor

namespace Go.Proofs.YtogfiipmebgnjaaGreatDoor
open Go.RowKit

/-- the text: so many digits of k times 2^x, rounded in a direction; the highest one's exponent is E -/
def fxC (d : Int) (s : Bool) (k : Nat) (x E : Int) (m : Nat) : Nat := whC d s (fxA k x (E - m + 1)) (fxB x (E - m + 1))
def fxT (d : Int) (s : Bool) (k : Nat) (x E : Int) (m : Nat) : List UInt8 := sgL s ++ unT (fxD m (fxC d s k x E m)) (fxX m (fxC d s k x E m) (E - m + 1) + m - 1)
def fxI (k : Nat) (x E : Int) (m : Nat) : Bool := !decide (fxA k x (E - m + 1) % fxB x (E - m + 1) = 0)
theorem write10_e {n d cnt : Int} {V : Nat} (hV : V < 2 ^ 256) (h : ¬ knB d ∨ ¬ goodN n V) (w : World) : Calls Tryz.prog 10 #[.int .i64 n, .int .i64 d, .int .i64 cnt, A4 V] w fun r w' => r = .returned (.tuple #[.string (B []), .bool false, .int .i64 1]) ∧ Below w.heap.size w w' := by
  have c5 := fun W => rdir_any d W
  by_cases hd : knB d
  · rw [decide_eq_true hd] at c5
    have c6 := fun W => runpack_any n V W hV
    rw [show unE n V = 1 from if_neg (h.resolve_left (fun e => e hd))] at c6
    exact w10_e n d cnt V _ _ _ _ _ w c5 1 (by decide) c6
  · rw [decide_eq_false hd] at c5
    exact w10_d n d cnt V w c5
theorem write10_r {n d cnt : Int} {V : Nat} (hV : V < 2 ^ 256) (hd : knB d) (hg : goodN n V) (hc : cnt < 1 ∨ 800 < cnt) (w : World) : Calls Tryz.prog 10 #[.int .i64 n, .int .i64 d, .int .i64 cnt, A4 V] w fun r w' => r = .returned (.tuple #[.string (B []), .bool false, .int .i64 3]) ∧ Below w.heap.size w w' := by
  have c5 := fun W => rdir_any d W
  rw [decide_eq_true hd] at c5
  have c6 := fun W => runpack_any n V W hV
  rw [show unE n V = 0 from if_pos hg] at c6
  exact w10_r n d cnt V _ _ _ _ _ w c5 c6 hc
theorem write10_c {n d : Int} {V m : Nat} (hV : V < 2 ^ 256) (hd : knB d) (hg : goodN n V) (hm1 : 1 ≤ m) (hm8 : m ≤ 800) (hc : (unD n V).c ≠ 1) (w : World) : Calls Tryz.prog 10 #[.int .i64 n, .int .i64 d, .int .i64 (m : Int), A4 V] w fun r w' => r = .returned (.tuple #[.string (B []), .bool false, .int .i64 6]) ∧ Below w.heap.size w w' := by
  have c5 := fun W => rdir_any d W
  rw [decide_eq_true hd] at c5
  have c6 := fun W => runpack_any n V W hV
  rw [show unE n V = 0 from if_pos hg] at c6
  exact w10_c n d m V _ _ _ _ _ w c5 c6 (by omega) (by omega) (by simpa using hc)
theorem write10_0 {n d : Int} {V m : Nat} (hV : V < 2 ^ 256) (hd : knB d) (hg : goodN n V) (hm1 : 1 ≤ m) (hm8 : m ≤ 800) (hc : (unD n V).c = 1) (hk : (unD n V).k = 0) (w : World) (hT10 : Tb10 w) :
    Calls Tryz.prog 10 #[.int .i64 n, .int .i64 d, .int .i64 (m : Int), A4 V] w fun r w' => r = .returned (.tuple #[.string (B (sgL (unD n V).s ++ unT (List.replicate m 48) 0)), .bool false, .int .i64 0]) ∧ Below w.heap.size w w' := by
  have c5 := fun W => rdir_any d W
  rw [decide_eq_true hd] at c5
  have c6 := fun W => runpack_any n V W hV
  rw [show unE n V = 0 from if_pos hg] at c6
  refine w10_0 n d m V _ (unD n V).s (unD n V).g (unD n V).x (unD n V).k w c5 c6 (by omega) (by omega) hc hk hT10 (List.replicate m 48) _ (fun W => zeros_v m hm1 (by omega) W) (fun W hW => ?_)
  have := lay_v (unD n V).s (List.replicate m 48) (1 - (m : Int)) W (hT10.next hW) (by omega) (by rw [List.length_replicate]; omega)
  rw [List.length_replicate, show (1 : Int) - m + m - 1 = 0 by omega] at this
  exact this
theorem write10_k {n d : Int} {V m : Nat} {E : Int} (hV : V < 2 ^ 256) (hd : knB d) (hf : finP n V) (hm1 : 1 ≤ m) (hm8 : m ≤ 800) (h0 : tnP (unD n V).k (unD n V).x E) (h1 : ¬ tnP (unD n V).k (unD n V).x (E + 1)) (w : World) (hT10 : Tb10 w) :
    Calls Tryz.prog 10 #[.int .i64 n, .int .i64 d, .int .i64 (m : Int), A4 V] w fun r w' => r = .returned (.tuple #[.string (B (fxT d (unD n V).s (unD n V).k (unD n V).x E m)), .bool (fxI (unD n V).k (unD n V).x E m), .int .i64 0]) ∧ Below w.heap.size w w' := by
  obtain ⟨hg, hc, hk⟩ := hf
  obtain ⟨hb, hkb, hx1, hx2, hD⟩ := fin_facts ⟨hg, hc, hk⟩
  have c5 := fun W => rdir_any d W
  rw [decide_eq_true hd] at c5
  have c6 := fun W => runpack_any n V W hV
  rw [show unE n V = 0 from if_pos hg] at c6
  have eD : (unD n V).v = DV 1 (unD n V).s (unD n V).g (unD n V).x (unD n V).k := by rw [← hc]
  rw [eD] at c6
  have hfar := tn_far hkb hx2 h0
  have hlow := tn_low hk hx1 h1
  generalize (unD n V).s = s at *
  generalize (unD n V).g = g at *
  generalize (unD n V).x = x at *
  generalize (unD n V).k = k at *
  have c9 := fun W => rvalue_v 1 s g x k W hkb ⟨hx1, hx2⟩
  have c10 := fun W a b ha hb => rtens_v (w := W) (vn := a) (vd := b) hkb ⟨hx1, hx2⟩ (show -6000 ≤ E ∧ E ≤ 6000 by omega) h0 h1 ha hb
  have hbk : bl k ≤ 256 := bl_le.2 hkb
  have b1 := bl_mul k (2 ^ x.toNat)
  have b2 := two_bl x.toNat
  have b3 := two_bl (-x).toNat
  have c11 : ∀ W a b, NT 900 (k * 2 ^ x.toNat) a W → NT 900 (2 ^ (-x).toNat) b W → Calls Tryz.prog 20 #[a, b, .int .u64 10, .int .i64 (-(E - m + 1))] W fun r w' => ∃ p q, r = .returned (.tuple #[p, q]) ∧ NT 900 (fxA k x (E - m + 1)) p w' ∧ NT 900 (fxB x (E - m + 1)) q w' ∧ Below W.heap.size W w' := fun W a b ha hb => by
    have := rscale10w (-(E - m + 1)) (by omega) ha hb (by omega) (by omega)
    rw [Int.neg_neg] at this
    exact this
  have hZ := fxB_pos x (E - m + 1)
  have c12 : ∀ W p q, NT 900 (fxA k x (E - m + 1)) p W → NT 900 (fxB x (E - m + 1)) q W → Calls Tryz.prog 30 #[.int .i64 d, .bool s, p, q] W fun r w' => ∃ v, r = .returned (.tuple #[v, .bool (decide (fxA k x (E - m + 1) % fxB x (E - m + 1) = 0))]) ∧ NV 41002 (fxC d s k x E m) v w' ∧ Below W.heap.size W w' := fun W p q hp hq =>
    whole_nt d s hd (by decide) hp hq (by omega)
  obtain ⟨f1, f2⟩ := fx_digits d s h0 h1 hm1 (a := E - m + 1) rfl
  have hbC : bl (fxC d s k x E m) ≤ 128000 := by
    obtain ⟨q, hq⟩ : ∃ q : Nat, q = 128000 := ⟨_, rfl⟩
    rw [← hq]
    refine bl_le.2 ?_
    have a1 : 10 ^ m ≤ (2 ^ 4) ^ m := Nat.pow_le_pow_left (by decide) _
    rw [← Nat.pow_mul] at a1
    have a2 : (2 : Nat) ^ (4 * m) < 2 ^ q := Nat.pow_lt_pow_right (by decide) (by omega)
    have a3 : fxC d s k x E m ≤ 10 ^ m := f2
    omega
  have c13 := fun W v hv => dec_nW (w := W) (v := v) (K := 41002) (by decide) hbC hv
  obtain ⟨t1, t2, t3⟩ := fx_text hm1 f1 f2 (E - m + 1)
  have hT : fxT d s k x E m = sgL s ++ unT (fxD m (fxC d s k x E m)) (fxX m (fxC d s k x E m) (E - m + 1) + m - 1) := rfl
  have lay : ∀ (a : Int), -90000 ≤ a ∧ a ≤ 90000 → ∀ W, Below w.heap.size w W → Calls Tryz.prog 22 #[.bool s, .string (B (fxD m (fxC d s k x E m))), .int .i64 a] W fun r w' => r = .returned (.string (B (sgL s ++ unT (fxD m (fxC d s k x E m)) (a + m - 1)))) ∧ Below W.heap.size W w' := fun a ha W hW => by
    have t2' : (fxD m (fxC d s k x E m)).length = m := t2
    have := lay_v s (fxD m (fxC d s k x E m)) a W (hT10.next hW) ha (by omega)
    rw [t2'] at this
    exact this
  by_cases hl : m < (dcW (fxC d s k x E m)).length
  · have eX : fxX m (fxC d s k x E m) (E - m + 1) = E - m + 1 + 1 := if_pos hl
    rw [hT, eX]
    refine w10_l n d m V 1 s g x k w c5 c6 (by omega) (by omega) rfl hk hkb _ _ _ _ _ _ E _ (dcW (fxC d s k x E m)) _ (by omega) c9 c10 c11 c12 c13 m rfl (fxD m (fxC d s k x E m)) (by rw [B_size]; omega) ?_ (lay _ (by omega))
    rw [B_ext, List.drop_zero]
    rfl
  · have eX : fxX m (fxC d s k x E m) (E - m + 1) = E - m + 1 := if_neg hl
    have eDD : fxD m (fxC d s k x E m) = dcW (fxC d s k x E m) := List.take_of_length_le (by omega)
    rw [hT, eX]
    have ly := lay (E - m + 1) (by omega)
    rw [eDD] at ly ⊢
    exact w10_k n d m V 1 s g x k w c5 c6 (by omega) (by omega) rfl hk hkb _ _ _ _ _ _ E _ (dcW (fxC d s k x E m)) _ (by omega) c9 c10 c11 c12 c13 (by rw [B_size]; omega) ly
end Go.Proofs.YtogfiipmebgnjaaGreatDoor
