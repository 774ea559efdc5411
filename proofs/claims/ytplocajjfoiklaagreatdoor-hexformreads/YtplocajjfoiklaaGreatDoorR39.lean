/-
  Texts that the proof leans on, joined: Od, Rl, Ru, Rw, Oq, Ot, Kd, Ke.
-/
import Derived.Test.YtplocajjfoiklaaGreatDoorR38
import Derived.Test.YtplocajjfoiklaaGreatDoorR34
import Derived.Test.YtplocajjfoiklaaGreatDoorR30
import Derived.Deep.RegionWith
import Derived.Test.YtplocajjfoiklaaGreatDoorR1
import Derived.Test.YtplocajjfoiklaaGreatDoorR29
import Derived.Test.YtplocajjfoiklaaGreatDoorR21
import Derived.Test.YtplocajjfoiklaaGreatDoorR20
import Derived.Test.YtplocajjfoiklaaGreatDoorR13
set_option linter.unusedVariables false
set_option linter.unusedSectionVars false
set_option linter.unusedSimpArgs false
set_option maxHeartbeats 8000000
set_option maxRecDepth 20000
namespace Go.Proofs.YtplocajjfoiklaaGreatDoor
open Go.RowKit
section
section
variable {P : Program} {Q : Exit → Act → World → Prop}
def dstM (l : List Oper) (D : List Nat) (n m : Nat) : Bool :=
 (List.range n).all fun i => (match l[i]? with
  | some o => (o.dst == none || (o.dst == some (D.getD i 0) && decide (D.getD i 0 < m))) && o.guard.isNone
  | none => false) && (List.range n).all fun j => j == i || D.getD j 0 != D.getD i 0
theorem dstM_spec {l : List Oper} {D : List Nat} {n m : Nat} (h : dstM l D n m = true) (i : Nat) (hi : i < n) (o : Oper) (ho : l[i]? = some o) :
  (o.dst = none ∨ (o.dst = some (D.getD i 0) ∧ D.getD i 0 < m)) ∧ o.guard = none ∧ ∀ j, j < n → j ≠ i → D.getD j 0 ≠ D.getD i 0 := by
 have h1 := List.all_eq_true.1 h i (List.mem_range.2 hi)
 simp only [ho, Bool.and_eq_true, decide_eq_true_eq, beq_iff_eq, List.all_eq_true, Bool.or_eq_true, bne_iff_ne, List.mem_range, Option.isNone_iff_eq_none] at h1
 exact ⟨h1.1.1, h1.1.2, fun j hj hne => (h1.2 j hj).resolve_left hne⟩
def wrS (l : List Oper) (D : List Nat) (j : Nat) : Prop := (l[j]?).bind Oper.dst = some (D.getD j 0)
theorem wp_region_mem (n m : Nat) (D : List Nat) (S : List (Value → World → Prop)) (T : World → World → Prop) (M : (Nat → Prop) → (Nat → Value) → World → Prop) {id : Nat} {l : List Oper} {a0 : Act} {w0 : World} (hm : P.follows .mixedOrders = true) (hI : invB .any l.toArray n = true) (hD : dstM l D n m = true)
  (hsz : a0.tmps.size = m) (hS : ∀ p ∈ S, ∀ v w w', p v w → T w w' → p v w') (hM0 : M (fun _ => False) (slot a0) w0.drew)
  (hstep : ∀ (L : Nat → Prop) i o a w, i < n → l[i]? = some o → ¬ L i → (∀ j oj, l[j]? = some oj → L j → ∀ e ∈ oj.after, Region.binds .any e = true → L e.on) → (∀ e ∈ o.after, Region.binds .any e = true → L e.on) → M L (slot a) w →
   (∀ t, (∀ i, i < n → D.getD i 0 ≠ t) → slot a t = slot a0 t) → (∀ j, j < n → wrS l D j → L j → (S.getD j fun _ _ => True) (slot a (D.getD j 0)) w) →
   o.wp P a w (fun a' w' => ∃ v, a' = a.put o.dst v ∧ (S.getD i fun _ _ => True) v w' ∧ T w w' ∧ M (fun j => L j ∨ j = i) (fun t => if o.dst = some t then v else slot a t) w') Q)
  (hend : ∀ (L : Nat → Prop) a w, (∀ i, i < n → L i) → M L (slot a) w → a.tmps.size = m → a.defers = a0.defers → (∀ t, (∀ i, i < n → D.getD i 0 ≠ t) → slot a t = slot a0 t) → (∀ i, i < n → wrS l D i → (S.getD i fun _ _ => True) (slot a (D.getD i 0)) w) → wpList P l.toArray Q (l.drop n) a w) :
  (Code.region id l.toArray true).wp P Q a0 w0 := by
 have hSt : ∀ i v w w', (S.getD i fun _ _ => True) v w → T w w' → (S.getD i fun _ _ => True) v w' := by
  intro i
  rcases Nat.lt_or_ge i S.length with h | h
  ·rw [List.getD_eq_getElem?_getD, List.getElem?_eq_getElem h]; exact hS _ (List.getElem_mem h)
  ·rw [List.getD_eq_getElem?_getD, List.getElem?_eq_none h]; exact fun _ _ _ _ _ => trivial
 refine wp_region_inv3 n (fun L a w => M L (slot a) w ∧ a.tmps.size = m ∧ a.defers = a0.defers ∧ (∀ t, (∀ i, i < n → D.getD i 0 ≠ t) → slot a t = slot a0 t) ∧ ∀ j, j < n → wrS l D j → L j → (S.getD j fun _ _ => True) (slot a (D.getD j 0)) w) hm hI
  ⟨hM0, hsz, rfl, fun _ _ => rfl, fun _ _ _ h => h.elim⟩ ?_ (fun L a w hL hB => hend L a w hL hB.1 hB.2.1 hB.2.2.1 hB.2.2.2.1 fun i hi hw => hB.2.2.2.2 i hi hw (hL i hi))
 intro L i o a w hi ho hL hcl he hB
 obtain ⟨hd, hg, hne⟩ := dstM_spec hD i hi o ho
 have hw := hstep L i o a w hi ho hL hcl he hB.1 hB.2.2.2.1 hB.2.2.2.2
 unfold wpOp
 have ho' : l.toArray[i]? = some o := by simpa using ho
 simp only [ho']
 rw [if_pos (by unfold Region.wanted; rw [hg])]
 refine Or.inl (Oper.wp_mono ?_ hw)
 rintro a' w' ⟨v, rfl, hv, hT, hM⟩
 rcases hd with hd | ⟨hd, hlt⟩
 ·have ea : a.put o.dst v = a := by rw [hd]; rfl
  have em : (fun t => if o.dst = some t then v else slot a t) = slot a := by funext t; rw [hd]; simp
  rw [ea]
  rw [em] at hM
  refine ⟨hM, hB.2.1, hB.2.2.1, hB.2.2.2.1, fun j hj hwj hLj => ?_⟩
  rcases hLj with hLj | rfl
  ·exact hSt j _ _ _ (hB.2.2.2.2 j hj hwj hLj) hT
  ·unfold wrS at hwj; rw [ho] at hwj; simp [hd] at hwj
 ·have em : (fun t => if o.dst = some t then v else slot a t) = slot (a.put o.dst v) := by
   funext t
   rw [hd]
   by_cases h : D.getD i 0 = t
   ·subst h
    rw [if_pos rfl, slot_put (by rw [hB.2.1]; exact hlt)]
   ·rw [if_neg (fun e => h (Option.some.inj e)), slot_put_ne h]
  rw [em] at hM
  refine ⟨hM, by rw [hd]; simp [Act.put, hB.2.1], by rw [hd]; exact hB.2.2.1, fun t ht => ?_, fun j hj hwj hLj => ?_⟩
  ·rw [hd, slot_put_ne (ht i hi)]; exact hB.2.2.2.1 t ht
  ·by_cases hji : j = i
   ·subst hji
    rw [hd, slot_put (by rw [hB.2.1]; exact hlt)]; exact hv
   ·rw [hd, slot_put_ne (fun h => hne j hj hji h.symm)]
    exact hSt j _ _ _ (hB.2.2.2.2 j hj hwj (hLj.resolve_right hji)) hT
end
end
theorem lay_any (B A at_ K : Nat) (v : Value) (w : World) (hB : B < 2 ^ 256) (hK : K < 900) (ha : at_ ≤ 600) (h : NV K A v w) :
  Calls Tryz.prog 153 #[A4 B, v, .int .i64 at_] w fun e w' => e = .returned (A4 (B + A * 2 ^ at_)) ∧ Below w.heap.size w w' := by
 have c52 : ∀ W, Below w.heap.size w W → Calls Tryz.prog 28 #[v, .int .i64 at_] W fun e w' => ∃ v', e = .returned v' ∧ NV (K + 11) (A * 2 ^ at_) v' w' ∧ Below W.heap.size W w' := fun W hW => rleft_nv at_ (by omega) ha (h.next hW)
 clear h
 go_enter Tryz.func153, Tryz.ntmps153
 go_wp2
 go_region_with (first
  | (go_at_call 28; refine (c52 _ bgo).mono ?_; rintro e w1 ⟨v1, rfl, hl, hb1⟩; have hbx := box_nv (w0 := w) (B := B) (t := 24) hB (bnext bgo hb1); obtain ⟨hc1, hf1, hz1_0, hl1_0, hA1, hs1⟩ := wz w hb1 w.heap.size; obtain ⟨hz1_1, hl1_1⟩ := zf hb1 (w.heap.size + 1); clear hb1)
  | (go_at_call 44; refine (radd_nv (by decide) (by omega) hbx hl).mono ?_; rintro e w2 ⟨v2, rfl, hs, hb2⟩; obtain ⟨hc2, hf2, hz2_0, hl2_0, hA2, hs2⟩ := wz w hb2 w.heap.size; obtain ⟨hz2_1, hl2_1⟩ := zf hb2 (w.heap.size + 1); clear hb2)
  | (go_at_call 60; refine (bits_nv hs).mono ?_; rintro e w3 ⟨rfl, hb3⟩; obtain ⟨hc3, hf3, hz3_0, hl3_0, hA3, hs3⟩ := wz w hb3 w.heap.size; obtain ⟨hz3_1, hl3_1⟩ := zf hb3 (w.heap.size + 1); clear hb3))
 have hsm := cell_set_map
 go_wp2
 exact bodyPost_ret (v := A4 (B + A * 2 ^ at_)) (by simp only [results, Tryz.results153]; go_simp) rfl ⟨rfl, bgo⟩
theorem rbinary_any (n : Int) (w : World) : Calls Tryz.prog 14 #[.int .i64 n] w fun e w' => e = .returned (.bool (decide (binN n))) ∧ w' = w := by
 by_cases h1 : 1 ≤ n
 ·by_cases h2 : n ≤ 6
  ·rw [decide_eq_true (show binN n from ⟨h1, h2⟩)]
   go_enter Tryz.func14, Tryz.ntmps14
   go_wp2
   go_ret
   exact ⟨rfl, rfl⟩
  ·rw [decide_eq_false (show ¬ binN n from fun h => h2 h.2)]
   go_enter Tryz.func14, Tryz.ntmps14
   go_wp2
   go_ret
   exact ⟨rfl, rfl⟩
 ·rw [decide_eq_false (show ¬ binN n from fun h => h1 h.1)]
  go_enter Tryz.func14, Tryz.ntmps14
  go_wp2
  go_ret
  exact ⟨rfl, rfl⟩
section
section
variable {a : Act} {w : World} {K : Act → World → Prop} {Q : Exit → Act → World → Prop} {d p q r : Nat} {ty : TypeId} {pos : String} {after : Array Edge} {gd : Option (Nat × Bool)}
theorem op_mv {v : Value} (h1 : slot a p = v) (hK : K (a.put (some d) v) w) : Oper.wp Tryz.prog { dst := some d, op := Op.move (Operand.tmp p), type := ty, pos := pos, after := after, guard := gd } a w K Q := by
 unfold slot at h1
 simp [go_sem, h1]
 exact hK
theorem op_as {v : Value} (h1 : slot a p = v) (hK : K (a.put (some d) v) w) : Oper.wp Tryz.prog { dst := some d, op := Op.assign (Operand.tmp p), type := ty, pos := pos, after := after, guard := gd } a w K Q := by
 unfold slot at h1
 simp [go_sem, h1]
 exact hK
end
end
section
theorem puts_slot (a : Act) : ∀ (D : List Nat) (b : Act), (D.foldl (fun b d => b.put (some d) (slot a d)) b).tmps.size = b.tmps.size ∧ (D.foldl (fun b d => b.put (some d) (slot a d)) b).defers = b.defers ∧ ∀ t, t < b.tmps.size → slot (D.foldl (fun b d => b.put (some d) (slot a d)) b) t = if t ∈ D then slot a t else slot b t
 | [], b => ⟨rfl, rfl, fun t ht => by simp⟩
 | d :: D, b => by
  obtain ⟨h1, h2, h3⟩ := puts_slot a D (b.put (some d) (slot a d))
  have hs : (b.put (some d) (slot a d)).tmps.size = b.tmps.size := by simp [Act.put]
  refine ⟨h1.trans hs, h2, fun t ht => ?_⟩
  rw [List.foldl_cons, h3 t (by rw [hs]; exact ht)]
  by_cases hD : t ∈ D
  ·rw [if_pos hD, if_pos (List.mem_cons_of_mem _ hD)]
  ·rw [if_neg hD]
   by_cases hd : t = d
   ·subst hd
    rw [if_pos List.mem_cons_self, slot_put ht]
   ·rw [if_neg (by simp [hd, hD]), slot_put_ne (fun h => hd h.symm)]
theorem act_of {a a0 : Act} (D : List Nat) (n : Nat) (hn : D.length = n) (hsz : a.tmps.size = a0.tmps.size) (hdf : a.defers = a0.defers) (hF : ∀ t, (∀ i, i < n → D.getD i 0 ≠ t) → slot a t = slot a0 t) :
  a = D.foldl (fun b d => b.put (some d) (slot a d)) a0 := by
 obtain ⟨h1, h2, h3⟩ := puts_slot a D a0
 generalize D.foldl (fun b d => b.put (some d) (slot a d)) a0 = b at *
 have key : ∀ t, t < a0.tmps.size → slot a t = slot b t := fun t ht => by
  rw [h3 t ht]
  by_cases hD : t ∈ D
  ·rw [if_pos hD]
  ·rw [if_neg hD]
   refine hF t fun i hi e => hD ?_
   rw [← e, List.getD_eq_getElem?_getD, List.getElem?_eq_getElem (by omega)]
   exact List.getElem_mem _
 have ht : a.tmps = b.tmps := by
  apply Array.ext (by omega)
  intro i h4 h5
  have := key i (by omega)
  unfold slot at this
  rw [Array.getElem?_eq_getElem h4, Array.getElem?_eq_getElem h5] at this
  exact this
 cases a; cases b
 simp only at ht hdf h2 ⊢
 rw [ht, hdf, h2]
theorem pow_e' {e : Nat} (h15 : e ≤ 15) : (1 : Int) ≤ 2 ^ e ∧ (2 : Int) ^ e ≤ 32768 := by
 have b : (2 : Nat) ^ e ≤ 2 ^ 15 := Nat.pow_le_pow_right (by decide) h15
 have a : 1 ≤ 2 ^ e := Nat.one_le_two_pow
 have c : ((2 : Int) ^ e) = ((2 ^ e : Nat) : Int) := by simp
 rw [c]; omega
attribute [local irreducible] W4 NT NV
section
variable (n : Int) (B : Nat) (f e Fr En S : Nat) (l m pay wd : Int) (nm : ByteArray) (w : World) (hf : 2 ≤ f ∧ f ≤ 240) (he : e ≤ 15) (hEn : En < 9223372036854775808) (hS9 : S < 9223372036854775808)
 (c24 : ∀ w, Calls Tryz.prog 13 #[.int .i64 n, A4 B] w fun x w' => x = .returned (.bool true) ∧ Below w.heap.size w w')
 (c25 : ∀ w, Calls Tryz.prog 58 #[.int .i64 n] w fun x w' => x = .returned (.tuple #[.agg #[.int .i64 n, .string nm, .int .i64 2, .int .i64 wd, .int .i64 ((f : Int) + 1), .int .i64 e, .int .i64 l, .int .i64 m, .int .i64 pay, .bool false], .int .i64 0]) ∧ Below w.heap.size w w')
 (c0 : ∀ w, Calls Tryz.prog 27 #[A4 B, .int .i64 0, .int .i64 f] w fun x w' => ∃ r, x = .returned r ∧ NT 19 Fr r w' ∧ Below w.heap.size w w')
 (c1 : ∀ w, Calls Tryz.prog 27 #[A4 B, .int .i64 f, .int .i64 e] w fun x w' => ∃ r, x = .returned r ∧ NT 19 En r w' ∧ Below w.heap.size w w')
 (c26 : ∀ w, Calls Tryz.prog 27 #[A4 B, .int .i64 ((f : Int) + e), .int .i64 1] w fun x w' => ∃ r, x = .returned r ∧ NT 19 S r w' ∧ Below w.heap.size w w')
include hf he hEn hS9 c24 c25 c0 c1 c26
end
end
section
def findR (n : Nat) : Code → Option (List Oper)
 | .region i o _ => if i = n then some o.toList else none
 | .seq a b => match findR n a with | some l => some l | none => findR n b
 | .cond _ a b => match findR n a with | some l => some l | none => findR n b
 | .block _ c => findR n c
 | .loop c => findR n c
 | _ => none
abbrev iW (v : Value) : Value → World → Prop := fun x _ => x = v
section
variable {P : Program} {a : Act} {w : World} {K : Act → World → Prop} {Q : Exit → Act → World → Prop} {d p q : Nat} {ty : TypeId} {pos : String} {after : Array Edge} {gd : Option (Nat × Bool)}
theorem og_mv {v : Value} (h1 : slot a p = v) (hK : K (a.put (some d) v) w) : Oper.wp P { dst := some d, op := Op.move (Operand.tmp p), type := ty, pos := pos, after := after, guard := gd } a w K Q := by
 unfold slot at h1
 simp [go_sem, h1]
 exact hK
theorem og_as {v : Value} (h1 : slot a p = v) (hK : K (a.put (some d) v) w) : Oper.wp P { dst := some d, op := Op.assign (Operand.tmp p), type := ty, pos := pos, after := after, guard := gd } a w K Q := by
 unfold slot at h1
 simp [go_sem, h1]
 exact hK
end
end
section
section
variable {a : Act} {w : World} {K : Act → World → Prop} {Q : Exit → Act → World → Prop} {d p : Nat} {ty : TypeId} {pos : String} {after : Array Edge} {gd : Option (Nat × Bool)}
theorem og_c1 {F : Nat} {p0 : Nat} {u0 : Value} {ts : Array TypeId} (hr : Sem.run Tryz.prog (callFunc F #[u0]) w = .ok (.enter F #[u0]) w) (h0 : slot a p0 = u0) (hc : Calls Tryz.prog F #[u0] w fun e w' => ∃ v, e = .returned v ∧ K (a.put (some d) v) w') : Oper.wp Tryz.prog { dst := some d, op := Op.call { callee := Callee.value (Operand.func F), args := #[Operand.tmp p0], argTypes := ts }, type := ty, pos := pos, after := after, guard := gd } a w K Q := by
 unfold slot at h0
 simp [go_sem, h0, hr]
 refine hc.mono ?_
 rintro e w' ⟨v, rfl, hK⟩
 exact hK
theorem og_c2 {F : Nat} {p0 p1 : Nat} {u0 u1 : Value} {ts : Array TypeId} (hr : Sem.run Tryz.prog (callFunc F #[u0, u1]) w = .ok (.enter F #[u0, u1]) w) (h0 : slot a p0 = u0) (h1 : slot a p1 = u1) (hc : Calls Tryz.prog F #[u0, u1] w fun e w' => ∃ v, e = .returned v ∧ K (a.put (some d) v) w') : Oper.wp Tryz.prog { dst := some d, op := Op.call { callee := Callee.value (Operand.func F), args := #[Operand.tmp p0, Operand.tmp p1], argTypes := ts }, type := ty, pos := pos, after := after, guard := gd } a w K Q := by
 unfold slot at h0 h1
 simp [go_sem, h0, h1, hr]
 refine hc.mono ?_
 rintro e w' ⟨v, rfl, hK⟩
 exact hK
end
end
theorem NT.fit {K K' V : Nat} {v : Value} {w : World} (h : NT K V v w) (hb : bl V ≤ 64 * K') : NT K' V v w := by
 obtain ⟨g, k, cap, z, h1, h2, h3, h4, h5⟩ := h
 exact ⟨g, k, cap, z, h1, by have := (size_bl (m := K') h3.2.2.1 h4).2 hb; omega, h3, h4, h5⟩
def NO (K X : Nat) (v : Value) (w : World) : Prop := (v = .slice none 0 0 ∧ X = 0) ∨ NT K X v w
theorem NO.next {K X : Nat} {v : Value} {w w' : World} (h : NO K X v w) (hb : Below w.heap.size w w') : NO K X v w' := by
 rcases h with h | h
 ·exact Or.inl h
 ·exact Or.inr (h.next hb)
theorem NO.more {K K' X : Nat} {v : Value} {w : World} (h : NO K X v w) (hk : K ≤ K') : NO K' X v w := by
 rcases h with h | h
 ·exact Or.inl h
 ·exact Or.inr (h.more hk)
theorem NO.nt {K X : Nat} {v : Value} {w : World} (h : NO K X v w) : Nt K X v w := by
 rcases h with ⟨rfl, rfl⟩ | h
 ·exact ⟨none, 0, 0, fun _ => 0, rfl, Nat.zero_le _, ⟨Nat.le_refl _, by unfold maxLen; omega, fun _ => ⟨Int.le_refl _, show (0 : Int) ≤ _ by decide⟩, fun _ _ => rfl, Or.inl ⟨rfl, rfl⟩⟩, rfl⟩
 ·obtain ⟨g, k, cap, z, h1, h2, h3, h4, _⟩ := h
  exact ⟨_, k, cap, z, h1, h2, h3, h4⟩
theorem zero_val : ∀ M, val (fun _ => 0) M = 0 := fun M => by
 induction M with
 | zero => rfl
 | succ M ih => simp only [val]; rw [ih]; simp
theorem rleft_nil (s : Nat) (hs : s ≤ 100000) (w : World) : Calls Tryz.prog 28 #[.slice none 0 0, .int .i64 (s : Int)] w fun r w' => ∃ v, r = .returned v ∧ NT 2000 0 v w' ∧ Below w.heap.size w w' := by
 obtain ⟨M, hM⟩ : ∃ M : Nat, s / 64 + 1 = M := ⟨_, rfl⟩
 have hMi : (s : Int) / 64 + 1 = (M : Int) := by omega
 have hM2 : M ≤ 2000 := by omega
 have hmk := fun w => make_any ((s : Int) / 64 + 1) M hMi (by omega) w
 have hNt : Nt 2000 0 (.slice (some ⟨w.heap.size, 0, none⟩) M M) (w.alloc (.cells (arrOf (fun _ => 0) M) 22)) := by
  refine ⟨_, M, M, fun _ => 0, rfl, hM2, num_of_block (by omega) (fun _ => ⟨Int.le_refl _, show (0 : Int) ≤ _ by decide⟩) (fun _ _ => rfl) (arrOf_size _ _) (fun j h => arrOf_get _ _ _ _), ?_⟩
  rw [zero_val]
  rfl
 have c40 : ∀ W, Below (w.alloc (.cells (arrOf (fun _ => 0) M) 22)).heap.size (w.alloc (.cells (arrOf (fun _ => 0) M) 22)) W → Calls Tryz.prog 67 #[.slice (some ⟨w.heap.size, 0, none⟩) M M] W fun e w' => ∃ r, e = .returned r ∧ NT 2000 0 r w' ∧ Below W.heap.size W w' := fun W hW => rtrim_nt (by decide) (hNt.next hW)
 have hb0 := below1 w (.cells (arrOf (fun _ => 0) M) 22)
 have hsi : (s : Int) ≤ 100000 := by omega
 clear hNt hMi hM
 generalize arrOf (fun _ => 0) M = zz at *
 go_enter Tryz.func28, Tryz.ntmps28
 go_wp2
 go_loop [16, 17] (fun t16 _ => t16 = .int .i64 0) (fun _ _ => 0)
 case atStart => rfl
 case round =>
  subst hrel
  go_wp2_with (go_at_call 67; refine (c40 _ (Below.refl _ _)).mono ?_; rintro r w1 ⟨v1, rfl, hv1, hb1⟩)
  go_ret
  exact ⟨v1, rfl, hv1, bnx hb0 hb1⟩
theorem rleft_no {K X : Nat} {v : Value} {w : World} (s : Nat) (hK : K ≤ 400) (hs : s ≤ 20000) (h : NO K X v w) : Calls Tryz.prog 28 #[v, .int .i64 (s : Int)] w fun r w' => ∃ v, r = .returned v ∧ NT 2000 (X * 2 ^ s) v w' ∧ Below w.heap.size w w' := by
 rcases h with ⟨rfl, rfl⟩ | h
 ·rw [Nat.zero_mul]
  exact rleft_nil s (by omega) w
 ·exact (rleft_nt s (by omega) (by omega) h.nv).mono fun r w' ⟨v, e1, e2, e3⟩ => ⟨v, e1, e2.more (by omega), e3⟩
theorem radd_no {K K' X Y : Nat} {v v' : Value} {w : World} (hK : K ≤ 100000) (hK' : K' ≤ 100000) (h : Nt K X v w) (h' : Nt K' Y v' w) : Calls Tryz.prog 44 #[v, v'] w fun r w' => ∃ v, r = .returned v ∧ NT (K + K' + 1) (X + Y) v w' ∧ Below w.heap.size w w' := by
 obtain ⟨a, k, c, z, rfl, hk, hN, hz⟩ := h
 obtain ⟨a', k', c', z', rfl, hk', hN', hz'⟩ := h'
 refine (radd_vt a a' k c k' c' z z' w (by omega) (by omega) hN hN').mono fun r w' ⟨g, k2, cap, y, e1, e2, e3, e4, e5, e6⟩ => ⟨_, e1, ⟨g, k2, cap, y, rfl, by omega, e3, ?_, e6⟩, e5⟩
 rw [e4, hz, hz']
 omega
section
section
variable {a : Act} {w : World} {K : Act → World → Prop} {Q : Exit → Act → World → Prop} {d p q : Nat} {ty : TypeId} {pos : String} {after : Array Edge} {gd : Option (Nat × Bool)}
theorem og_c2k {F : Nat} {p0 : Nat} {u0 u1 : Value} {ts : Array TypeId} (hr : Sem.run Tryz.prog (callFunc F #[u0, u1]) w = .ok (.enter F #[u0, u1]) w) (h0 : slot a p0 = u0) (hc : Calls Tryz.prog F #[u0, u1] w fun e w' => ∃ v, e = .returned v ∧ K (a.put (some d) v) w') : Oper.wp Tryz.prog { dst := some d, op := Op.call { callee := Callee.value (Operand.func F), args := #[Operand.tmp p0, Operand.const u1], argTypes := ts }, type := ty, pos := pos, after := after, guard := gd } a w K Q := by
 unfold slot at h0
 simp [go_sem, h0, hr]
 refine hc.mono ?_
 rintro e w' ⟨v, rfl, hK⟩
 exact hK
theorem og_ix9 {l : List UInt8} {j : Nat} {c : Int} (hj : j < (B l).size) (hc : IDX (B l) j c) (hb : j < 1000000) (h1 : slot a p = .string (B l)) (h2 : slot a q = .int .i64 (j : Int)) (hK : K (a.put (some d) (.int .u8 c)) w) : Oper.wp Tryz.prog { dst := some d, op := Op.index 9 (Operand.tmp p) (Operand.tmp q), type := ty, pos := pos, after := after, guard := gd } a w K Q := by
 unfold slot at h1 h2
 have e := hc hj
 have h0 : (0 : Int) ≤ (j : Int) := by omega
 have hjs : (j : Int) < ((B l).size : Int) := by omega
 simp [go_sem, h1, h2, hj, e]
 exact hK
theorem og_cvu {x : Int} (hx : 0 ≤ x ∧ x ≤ 1000) (h1 : slot a p = .int .i64 x) (hK : K (a.put (some d) (.int .u64 x)) w) : Oper.wp Tryz.prog { dst := some d, op := Op.convert 3 22 (Operand.tmp p), type := ty, pos := pos, after := after, guard := gd } a w K Q := by
 unfold slot at h1
 have e : IntKind.u64.wrap x = x := by unfold IntKind.wrap; simp [IntKind.signed, IntKind.bits]; omega
 simp [go_sem, h1, e]
 exact hK
theorem og_bsT {x : Int} (h1 : slot a p = .int .u64 x) (hK : K (a.put (some d) (.slice (some ⟨w.heap.size, 0, none⟩) 1 1)) (w.alloc (.cells #[.int .u64 x] 22))) : Oper.wp Tryz.prog { dst := some d, op := Op.buildSlice 49 1 #[(0, Operand.tmp p)], type := ty, pos := pos, after := after, guard := gd } a w K Q := by
 unfold slot at h1
 simp [go_sem, h1]
 exact hK
end
noncomputable def opsR4 : List Oper := (Tryz.f42.body.bind (findR 4)).getD []
def slotsR4 : List Nat := [18, 19, 20, 21, 22, 23, 24, 25, 26]
def slotsAR4 : List Nat := [18, 19, 20, 21, 22, 23, 24, 25, 26, 5]
attribute [local irreducible] NT NV Nt
theorem regR4 {X j : Nat} {l : List UInt8} {y : UInt8} {vx : Value} {a0 : Act} {ws : World} {Q : Exit → Act → World → Prop} (hs : a0.tmps.size = 34) (g0 : slot a0 0 = .string (B l)) (g5 : slot a0 5 = vx) (g6 : slot a0 6 = .int .i64 (j : Int)) (hx : NO 300 X vx ws) (hj : j < (B l).size) (hj2 : j < 1000000) (hc : IDX (B l) j ((y.toNat : Nat) : Int)) (hy : hxB y = true)
  (hQ : ∀ (a : Act) (w : World) (u : Value), slot a 5 = u → NT 2100 (X * 16 + hxw y) u w → a.tmps.size = 34 → a.defers = a0.defers → (∀ t, (∀ i, i < 10 → slotsAR4.getD i 0 ≠ t) → slot a t = slot a0 t) → Below ws.heap.size ws w → Q .normal a w) :
  (Code.region 4 opsR4.toArray true).wp Tryz.prog Q a0 ws := by
 have hw16 := hxw_lt hy
 have c1 : ∀ W v, NO 300 X v W → Calls Tryz.prog 28 #[v, .int .i64 4] W fun e w' => ∃ v, e = .returned v ∧ NT 2000 (X * 16) v w' ∧ Below W.heap.size W w' := fun W v hv => rleft_no 4 (by decide) (by decide) hv
 have c2 : ∀ W, Calls Tryz.prog 100 #[.int .u8 ((y.toNat : Nat) : Int)] W fun e w' => e = .returned (.int .i64 (hxw y : Int)) ∧ W = w' := fun W => by
  have := digit_v y W
  rw [if_pos hy] at this
  exact this
 have c3 : ∀ W u v, NT 2000 (X * 16) u W → Nt 1 (hxw y) v W → Calls Tryz.prog 44 #[u, v] W fun e w' => ∃ v, e = .returned v ∧ NT 2100 (X * 16 + hxw y) v w' ∧ Below W.heap.size W w' := fun W u v hu hv => (radd_no (by decide) (by decide) (NO.nt (Or.inr hu)) hv).mono fun e w' ⟨v, e1, e2, e3⟩ => ⟨v, e1, e2.more (by decide), e3⟩
 refine wp_region_mem 9 34 slotsR4 [NO 300 X, NT 2000 (X * 16), iW (.string (B l)), iW (.int .i64 (j : Int)), iW (.int .u8 ((y.toNat : Nat) : Int)), iW (.int .i64 (hxw y : Int)), iW (.int .u64 (hxw y : Int)), Nt 1 (hxw y), NT 2100 (X * 16 + hxw y)] (fun w w' => Below w.heap.size w w') (fun L f w => Below ws.heap.size ws w) (by kernel_rfl) (by kernel_rfl) (by kernel_rfl) hs ?_ (Below.refl _ _).drew ?_ ?_
 ·intro p hp
  simp only [List.mem_cons, List.not_mem_nil, or_false] at hp
  rcases hp with rfl | rfl | rfl | rfl | rfl | rfl | rfl | rfl | rfl
  all_goals first | exact fun _ _ _ h _ => h | exact fun _ _ _ h hb => h.next hb
 ·intro L i o a w hi ho hL hcl he hM hF hv
  have f0 : slot a 0 = .string (B l) := (hF 0 (by decide)).trans g0
  have f5 : slot a 5 = vx := (hF 5 (by decide)).trans g5
  have f6 : slot a 6 = .int .i64 (j : Int) := (hF 6 (by decide)).trans g6
  have hor : i = 0 ∨ i = 1 ∨ i = 2 ∨ i = 3 ∨ i = 4 ∨ i = 5 ∨ i = 6 ∨ i = 7 ∨ i = 8 := by omega
  rcases hor with rfl | rfl | rfl | rfl | rfl | rfl | rfl | rfl | rfl
  ·obtain rfl := Option.some.inj (show opsR4[0]? = some o from ho)
   exact og_mv f5 ⟨_, rfl, hx.next hM, Below.refl _ _, hM⟩
  ·obtain rfl := Option.some.inj (show opsR4[1]? = some o from ho)
   refine og_c2k (by simp [go_sem]) rfl ((c1 w _ (hv 0 (by decide) rfl (he ⟨0, .data⟩ (by simp) rfl))).mono ?_)
   rintro e w' ⟨v, rfl, hSv, hb⟩
   exact ⟨v, rfl, _, rfl, hSv, hb, bnx hM hb⟩
  ·obtain rfl := Option.some.inj (show opsR4[2]? = some o from ho)
   exact og_mv f0 ⟨_, rfl, rfl, Below.refl _ _, hM⟩
  ·obtain rfl := Option.some.inj (show opsR4[3]? = some o from ho)
   exact og_mv f6 ⟨_, rfl, rfl, Below.refl _ _, hM⟩
  ·obtain rfl := Option.some.inj (show opsR4[4]? = some o from ho)
   exact og_ix9 hj hc hj2 (hv 2 (by decide) rfl (he ⟨2, .data⟩ (by simp) rfl) : slot a 20 = .string (B l)) (hv 3 (by decide) rfl (he ⟨3, .data⟩ (by simp) rfl) : slot a 21 = .int .i64 (j : Int)) ⟨_, rfl, rfl, Below.refl _ _, hM⟩
  ·obtain rfl := Option.some.inj (show opsR4[5]? = some o from ho)
   refine og_c1 (by simp [go_sem]) (hv 4 (by decide) rfl (he ⟨4, .data⟩ (by simp) rfl) : slot a 22 = .int .u8 ((y.toNat : Nat) : Int)) ((c2 w).mono ?_)
   rintro e w' ⟨rfl, rfl⟩
   exact ⟨_, rfl, _, rfl, rfl, Below.refl _ _, hM⟩
  ·obtain rfl := Option.some.inj (show opsR4[6]? = some o from ho)
   exact og_cvu (by omega) (hv 5 (by decide) rfl (he ⟨5, .data⟩ (by simp) rfl) : slot a 23 = .int .i64 (hxw y : Int)) ⟨_, rfl, rfl, Below.refl _ _, hM⟩
  ·obtain rfl := Option.some.inj (show opsR4[7]? = some o from ho)
   exact og_bsT (hv 6 (by decide) rfl (he ⟨6, .data⟩ (by simp) rfl) : slot a 24 = .int .u64 (hxw y : Int)) ⟨_, rfl, nt_one rfl rfl (by omega), below1 _ _, bnx hM (below1 _ _)⟩
  ·obtain rfl := Option.some.inj (show opsR4[8]? = some o from ho)
   refine og_c2 (by simp [go_sem]) rfl rfl ((c3 w _ _ (hv 1 (by decide) rfl (he ⟨1, .data⟩ (by simp) rfl)) (hv 7 (by decide) rfl (he ⟨7, .data⟩ (by simp) rfl))).mono ?_)
   rintro e w' ⟨v, rfl, hSv, hb⟩
   exact ⟨v, rfl, _, rfl, hSv, hb, bnx hM hb⟩
 ·intro L a w hL hM hsz hdf hF hv
  have z0 : NT 2100 (X * 16 + hxw y) (slot a 26) w := hv 8 (by decide) rfl
  refine BigFrame.wpList_want rfl fun K hK => og_as rfl (hK _ _ ?_)
  clear K hK
  refine hQ _ _ (slot a 26) (slot_put (by omega)) z0 (by simp [Act.put, hsz]) hdf (fun t ht => ?_) hM
  rw [slot_put_ne (show 5 ≠ t from ht 9 (by decide))]
  exact hF t fun i hi => by
   have := ht i (by omega)
   have hor : i = 0 ∨ i = 1 ∨ i = 2 ∨ i = 3 ∨ i = 4 ∨ i = 5 ∨ i = 6 ∨ i = 7 ∨ i = 8 := by omega
   rcases hor with rfl | rfl | rfl | rfl | rfl | rfl | rfl | rfl | rfl <;> exact this
theorem hx_get {l : List UInt8} {j : Nat} (h : j < (l.takeWhile hxB).length) : ∃ y, l[j]? = some y ∧ hxB y = true ∧ (l.takeWhile hxB).take (j + 1) = (l.takeWhile hxB).take j ++ [y] := by
 have hp : l.takeWhile hxB <+: l := List.takeWhile_prefix hxB
 obtain ⟨t, ht⟩ := hp
 refine ⟨(l.takeWhile hxB)[j]'h, ?_, ?_, ?_⟩
 ·have e : (l.takeWhile hxB ++ t)[j]? = l[j]? := by rw [ht]
  rw [← e, List.getElem?_append_left h, List.getElem?_eq_getElem h]
 ·have := List.all_takeWhile (p := hxB) (l := l)
  exact List.all_eq_true.1 this _ (List.getElem_mem h)
 ·rw [List.take_succ_eq_append_getElem h]
theorem hx_end {l : List UInt8} (h : (l.takeWhile hxB).length < l.length) : ∃ y, l[(l.takeWhile hxB).length]? = some y ∧ hxB y = false := by
 induction l with
 | nil => simp at h
 | cons c r ih =>
  by_cases hc : hxB c = true
  ·rw [List.takeWhile_cons_of_pos hc] at h ⊢
   obtain ⟨y, h1, h2⟩ := ih (by simpa using h)
   exact ⟨y, by simpa using h1, h2⟩
  ·rw [List.takeWhile_cons_of_neg hc]
   exact ⟨c, rfl, by simpa using hc⟩
theorem hx_drop (l : List UInt8) : l.drop (l.takeWhile hxB).length = l.dropWhile hxB := by
 have h := List.takeWhile_append_dropWhile (p := hxB) (l := l)
 have : (l.takeWhile hxB ++ l.dropWhile hxB).drop (l.takeWhile hxB).length = l.dropWhile hxB := List.drop_left
 rwa [h] at this
theorem run_v (l : List UInt8) (hl : l.length ≤ 4000) (w : World) : Calls Tryz.prog 42 #[.string (B l)] w fun r w' => ∃ v, r = .returned (.tuple #[v, .int .i64 ((l.takeWhile hxB).length : Int), .string (B (l.dropWhile hxB))]) ∧ NO 300 (hxV (l.takeWhile hxB)) v w' ∧ Below w.heap.size w w' := by
 have zl : (B l).size = l.length := B_size l
 obtain ⟨n, hn⟩ : ∃ n, (l.takeWhile hxB).length = n := ⟨_, rfl⟩
 have hnl : n ≤ l.length := by rw [← hn]; exact (List.takeWhile_prefix hxB).length_le
 obtain ⟨q, hq⟩ : ∃ q, l.length = q := ⟨_, rfl⟩
 have hext : (B l).extract n q = B (l.dropWhile hxB) := by rw [← hq, ← zl, B_drop, ← hn, hx_drop]
 have hall : (l.takeWhile hxB).all hxB = true := List.all_takeWhile
 have HB : Hid (∀ j, j ≤ n → bl (hxV ((l.takeWhile hxB).take j)) ≤ 16000) := fun j hj => by
  have ha : ((l.takeWhile hxB).take j).all hxB = true := List.all_eq_true.2 fun y hy => List.all_eq_true.1 hall y (List.mem_of_mem_take hy)
  have h1 := hxV_lt ha
  rw [p16] at h1
  have h2 := bl_le.2 h1
  have h3 : ((l.takeWhile hxB).take j).length ≤ j := by rw [List.length_take]; omega
  omega
 have HG : Hid (∀ j, j < n → ∃ y, IDX (B l) j ((y.toNat : Nat) : Int) ∧ hxB y = true ∧ (l.takeWhile hxB).take (j + 1) = (l.takeWhile hxB).take j ++ [y]) := fun j hj => by
  obtain ⟨y, h1, h2, h3⟩ := hx_get (l := l) (j := j) (by omega)
  exact ⟨y, IDX_get h1, h2, h3⟩
 have HE : Hid (n < q → ∃ y, IDX (B l) n ((y.toNat : Nat) : Int) ∧ hxB y = false) := fun h => by
  obtain ⟨y, h1, h2⟩ := hx_end (l := l) (by omega)
  rw [hn] at h1
  exact ⟨y, IDX_get h1, h2⟩
 have HT : Hid ((l.takeWhile hxB).take n = l.takeWhile hxB) := by show _ = _; rw [← hn, List.take_length]
 rw [hn]
 rw [hq] at hl zl
 have hqi : (q : Int) ≤ 4000 := by omega
 have HN : Hid (n ≤ q) := by show _ ≤ _; omega
 clear hn hnl hall hq
 generalize l.takeWhile hxB = pre at *
 generalize l.dropWhile hxB = rest at *
 go_enter Tryz.func42, Tryz.ntmps42
 go_wp2
 go_loopw [5, 6, 7, 8, 9, 10, 11, 12, 13, 14, 15, 16, 17, 18, 19, 20, 21, 22, 23, 24, 25, 26, 27, 28] (fun t5 t6 _ _ _ _ _ _ _ _ _ _ _ _ _ _ _ _ _ _ _ _ _ _ wr => ∃ j : Nat, j ≤ n ∧ t6 = .int .i64 (j : Int) ∧ NO 300 (hxV (pre.take j)) t5 wr ∧ Below w.heap.size w wr) (fun _ t6 _ _ _ _ _ _ _ _ _ _ _ _ _ _ _ _ _ _ _ _ _ _ _ => n - (intOf t6).toNat)
 case atStart => exact ⟨0, Nat.zero_le _, rfl, Or.inl ⟨rfl, rfl⟩, Below.refl _ _⟩
 case round =>
  obtain ⟨j, hj, rfl, hv, hB⟩ := hrel
  have hnq := HN.out
  by_cases h4 : j < n
  ·obtain ⟨y, hy1, hy2, hy3⟩ := HG.out j h4
   have hbj := HB.out (j + 1) h4
   have hjs : j < (B l).size := by omega
   have hii := hy1 hjs
   have hjq : (j : Int) < q := by omega
   have cdg := digit_v y
   rw [if_pos hy2] at cdg
   have hwn : (0 : Int) ≤ (hxw y : Int) := by omega
   go_upto_region 4 with (go_at_call 100; refine (cdg _).mono ?_; rintro r w1 ⟨rfl, rfl⟩)
   refine regR4 (X := hxV (pre.take j)) (j := j) (l := l) (y := y) rfl rfl rfl rfl hv hjs (by omega) hy1 hy2 ?_
   intro a' w2 v2 h5 hv2 hsz hdf hF hb2
   have ha := act_of slotsAR4 10 rfl hsz hdf hF
   rw [ha]
   simp only [slotsAR4, List.foldl_cons, List.foldl_nil, Act.put, List.setIfInBounds_toArray, List.set_cons_succ, List.set_cons_zero, h5]
   generalize slot a' 18 = s18
   generalize slot a' 19 = s19
   generalize slot a' 20 = s20
   generalize slot a' 21 = s21
   generalize slot a' 22 = s22
   generalize slot a' 23 = s23
   generalize slot a' 24 = s24
   generalize slot a' 25 = s25
   generalize slot a' 26 = s26
   clear ha h5 hsz hdf hF
   have hB2 := bnx hB hb2
   have HV : Hid (NO 300 (hxV (pre.take (j + 1))) v2 w2) := by
    show NO _ _ _ _
    rw [hy3, hxV_snoc] at hbj ⊢
    exact Or.inr (hv2.fit (by omega))
   clear hv2 hy3 hbj
   go_wp2
   go_roundw
   case rel => exact ⟨j + 1, h4, by go_num, HV.out, hB2⟩
   case measure => simp [intOf]; omega
  ·obtain rfl : j = n := by omega
   rw [HT.out] at hv
   have hext' := hext
   have hjqe : (j : Int) ≤ q := by omega
   by_cases hq : j < q
   ·obtain ⟨y, hy1, hy2⟩ := HE.out hq
    have hjs : j < (B l).size := by omega
    have hii := hy1 hjs
    have hjq : (j : Int) < q := by omega
    have cdg := digit_v y
    rw [if_neg (by rw [hy2]; decide)] at cdg
    clear HB HG HE HT HN hy1
    go_wp2_with (go_at_call 100; refine (cdg _).mono ?_; rintro r w1 ⟨rfl, rfl⟩)
    refine wp_tail 7 (by kernel_rfl) (by kernel_rfl) (by kernel_rfl) (fun _ _ d _ _ h => by cases d <;> exact h) fun hne hcell => ?_
    simp only [List.take_succ_cons, List.take_zero, List.drop_succ_cons, List.drop_zero]
    repeat go_big_quiet_step (fail)
    refine wpQuiet_nil fun w3 hb3 => ?_
    have hv3 := hv.next hb3
    have hB3 := bnx hB hb3
    go_wp2
    exact bodyPost_ret (v := .tuple #[_, .int .i64 (j : Int), .string (B rest)]) (by simp only [results, Tryz.results42]; go_simp) rfl ⟨_, rfl, hv3, hB3⟩
   ·obtain rfl : j = q := by omega
    have hre : ByteArray.empty = B rest := by rw [← hext]; simp
    clear HB HG HE HT HN
    go_wp2
    refine wp_tail 7 (by kernel_rfl) (by kernel_rfl) (by kernel_rfl) (fun _ _ d _ _ h => by cases d <;> exact h) fun hne hcell => ?_
    simp only [List.take_succ_cons, List.take_zero, List.drop_succ_cons, List.drop_zero]
    repeat go_big_quiet_step (fail)
    refine wpQuiet_nil fun w3 hb3 => ?_
    have hv3 := hv.next hb3
    have hB3 := bnx hB hb3
    go_wp2
    exact bodyPost_ret (v := .tuple #[_, .int .i64 (j : Int), .string (B rest)]) (by simp only [results, Tryz.results42]; go_simp) rfl ⟨_, rfl, hv3, hB3⟩
end
end Go.Proofs.YtplocajjfoiklaaGreatDoor
