/-
  The law RoundBinary of layer 6, for every number, direction, sign, fraction and power of two: it is rounded as the document says, with just its flags, or refused; of lists above 1000 words only that it returns. No condition.
-/
import Derived.Test.YthcndcanahhbcaaDoorJ20
import Derived.Test.YthcndcanahhbcaaDoorJ16
import Derived.Test.YthcndcanahhbcaaDoorCards
import Derived.Test.YthcndcanahhbcaaDoorTie
import Derived.Test.YthcndcanahhbcaaDoorJ9
/-
  What the law RoundBinary does: it returns true.
-/
set_option linter.unusedVariables false
set_option linter.unusedSectionVars false
set_option linter.unusedSimpArgs false
set_option maxRecDepth 20000
namespace Go.Proofs.YthcndcanahhbcaaDoor
open Go.RowKit
attribute [local irreducible] W4 Nt
section
variable (n d x : Int) (s : Bool) (a1 a2 : Option Addr) (k1 c1 k2 c2 : Nat) (w : World) (hT : Tab w) (hc1 : (c1 : Int) ≤ 9223372036854775807) (hc2 : (c2 : Int) ≤ 9223372036854775807) (hk1 : k1 ≤ c1) (hk2 : k2 ≤ c2)
include hc1 hc2 hk1 hk2
theorem few_any : Calls Tryd.prog 10 #[.slice a1 k1 c1, .slice a2 k2 c2] w fun r w' => r = .returned (.bool (decide (k1 ≤ 1000 ∧ k2 ≤ 1000))) ∧ w = w' := by
  by_cases h1 : k1 ≤ 1000
  · have i1 : (k1 : Int) ≤ 1000 := by omega
    by_cases h2 : k2 ≤ 1000
    · have i2 : (k2 : Int) ≤ 1000 := by omega
      rw [decide_eq_true ⟨h1, h2⟩]
      go_enter Tryd.func10, Tryd.ntmps10
      go_wp2
      go_ret
      exact ⟨by simp [i1, i2]; try omega, rfl⟩
    · have i2 : ¬ (k2 : Int) ≤ 1000 := by omega
      rw [decide_eq_false (fun h => h2 h.2)]
      go_enter Tryd.func10, Tryd.ntmps10
      go_wp2
      go_ret
      exact ⟨by simp [i1, i2]; try omega, rfl⟩
  · have i1 : ¬ (k1 : Int) ≤ 1000 := by omega
    rw [decide_eq_false (fun h => h1 h.1)]
    go_enter Tryd.func10, Tryd.ntmps10
    go_wp2
    go_ret
    exact ⟨by simp [i1]; try omega, rfl⟩
include hT
set_option maxHeartbeats 2000000 in
theorem rbin_long (h : ¬ (k1 ≤ 1000 ∧ k2 ≤ 1000)) :
    Calls Tryd.prog 3 #[.int .i64 n, .int .i64 d, .bool s, .slice a1 k1 c1, .slice a2 k2 c2, .int .i64 x] w fun r w' => r = .returned (.bool true) ∧ Below w.heap.size w w' := by
  have c9 := awake6
  have c10 := fun W => few_any a1 a2 k1 c1 k2 c2 W hc1 hc2 hk1 hk2
  rw [decide_eq_false h] at c10
  have hB : Below w.heap.size w w := Below.refl _ _
  go_enter Tryd.func3, Tryd.ntmps3
  go_wp2_with (first | (go_at_call 9; refine (c9 _ (hT.go hB)).mono ?_; rintro r w1 ⟨rfl, hb1⟩; replace hB := bnext hB hb1; clear hb1) | (go_at_call 10; refine (c10 _).mono ?_; rintro r w2 ⟨rfl, rfl⟩))
  go_ret
  exact ⟨rfl, hB⟩
variable (V : Nat) (F E : Int)
  (c11 : ∀ W, Below w.heap.size w W → Calls Tryd.prog 11 #[.int .i64 n, .int .i64 d, .bool s, .slice a1 k1 c1, .slice a2 k2 c2, .int .i64 x] W fun r w' => r = .returned (.tuple #[A4 V, .int .i64 F, .int .i64 E]) ∧ Below W.heap.size W w')
  (c12 : ∀ W, Below w.heap.size w W → Calls Tryd.prog 12 #[.int .i64 n, .int .i64 d, .bool s, .slice a1 k1 c1, .slice a2 k2 c2, .int .i64 x] W fun r w' => r = .returned (.tuple #[A4 V, .int .i64 F, .int .i64 E]) ∧ Below W.heap.size W w')
include c11 c12
set_option maxHeartbeats 2000000 in
theorem rbin_k (h : k1 ≤ 1000 ∧ k2 ≤ 1000) :
    Calls Tryd.prog 3 #[.int .i64 n, .int .i64 d, .bool s, .slice a1 k1 c1, .slice a2 k2 c2, .int .i64 x] w fun r w' => r = .returned (.bool true) ∧ Below w.heap.size w w' := by
  have c9 := awake6
  have c10 := fun W => few_any a1 a2 k1 c1 k2 c2 W hc1 hc2 hk1 hk2
  rw [decide_eq_true h] at c10
  have hself := A4_self V
  go_enter Tryd.func3, Tryd.ntmps3
  go_wp2_with (first | (go_at_call 9; refine (c9 _ (hT.go (by (repeat (first | with_reducible assumption | with_reducible exact Below.refl _ _ | with_reducible refine Below.setCell ?_ (by first | omega | (dsimp only; omega) | (simp <;> omega)) _ | with_reducible refine Below.alloc ?_ (by first | omega | (simp <;> omega)) _ | with_reducible refine Below.drew ?_))))).mono ?_; rintro x w1 ⟨rfl, hb1⟩; obtain ⟨hc1, hf1⟩ := bcell hb1; have hA1 := bnext (w0 := w) (by (repeat (first | with_reducible assumption | with_reducible exact Below.refl _ _ | with_reducible refine Below.setCell ?_ (by first | omega | (dsimp only; omega) | (simp <;> omega)) _ | with_reducible refine Below.alloc ?_ (by first | omega | (simp <;> omega)) _ | with_reducible refine Below.drew ?_))) hb1; have hs1 := hA1.size; clear hb1) | (go_at_call 10; refine (c10 _).mono ?_; rintro r w0 ⟨rfl, rfl⟩) | (go_at_call 11; refine (c11 _ (by (repeat (first | with_reducible assumption | with_reducible exact Below.refl _ _ | with_reducible refine Below.setCell ?_ (by first | omega | (dsimp only; omega) | (simp <;> omega)) _ | with_reducible refine Below.alloc ?_ (by first | omega | (simp <;> omega)) _ | with_reducible refine Below.drew ?_)))).mono ?_; rintro r w2 ⟨rfl, hb2⟩; obtain ⟨hc2, hf2⟩ := bcell hb2; have hA2 := bnext (w0 := w) (by (repeat (first | with_reducible assumption | with_reducible exact Below.refl _ _ | with_reducible refine Below.setCell ?_ (by first | omega | (dsimp only; omega) | (simp <;> omega)) _ | with_reducible refine Below.alloc ?_ (by first | omega | (simp <;> omega)) _ | with_reducible refine Below.drew ?_))) hb2; have hs2 := hA2.size; clear hb2) | (go_at_call 12; refine (c12 _ (by (repeat (first | with_reducible assumption | with_reducible exact Below.refl _ _ | with_reducible refine Below.setCell ?_ (by first | omega | (dsimp only; omega) | (simp <;> omega)) _ | with_reducible refine Below.alloc ?_ (by first | omega | (simp <;> omega)) _ | with_reducible refine Below.drew ?_)))).mono ?_; rintro r w3 ⟨rfl, hb3⟩; obtain ⟨hc3, hf3⟩ := bcell hb3; have hz3_0 : w2.heap.size < w3.heap.size := lt_below hb3 (by first | with_reducible assumption | (simp; done) | (simp; omega)); have hl3_0 := Nat.le_of_lt hz3_0; have hA3 := bnext (w0 := w) (by (repeat (first | with_reducible assumption | with_reducible exact Below.refl _ _ | with_reducible refine Below.setCell ?_ (by first | omega | (dsimp only; omega) | (simp <;> omega)) _ | with_reducible refine Below.alloc ?_ (by first | omega | (simp <;> omega)) _ | with_reducible refine Below.drew ?_))) hb3; have hs3 := hA3.size; clear hb3))
  go_ret
  exact ⟨by simp, by (repeat (first | with_reducible assumption | with_reducible exact Below.refl _ _ | with_reducible refine Below.setCell ?_ (by first | omega | (dsimp only; omega) | (simp <;> omega)) _ | with_reducible refine Below.alloc ?_ (by first | omega | (simp <;> omega)) _ | with_reducible refine Below.drew ?_))⟩
end
theorem roundBinary_any (n d : Int) (s : Bool) (a1 : Option Addr) (k1 c1 : Nat) (z1 : Nat → Int) (a2 : Option Addr) (k2 c2 : Nat) (z2 : Nat → Int) (x : Int) (w : World) (hT : Tab w) (h1 : Num w a1 k1 c1 z1) (h2 : Num w a2 k2 c2 z2) :
    Calls Tryd.prog 3 #[.int .i64 n, .int .i64 d, .bool s, .slice a1 k1 c1, .slice a2 k2 c2, .int .i64 x] w fun r w' => r = .returned (.bool true) ∧ Below w.heap.size w w' := by
  have m1 := h1.2.1
  have m2 := h2.2.1
  unfold maxLen at m1 m2
  by_cases hl : k1 ≤ 1000 ∧ k2 ≤ 1000
  · have t1 := nt_of h1 (by omega)
    have t2 := nt_of h2 (by omega)
    exact rbin_k n d x s a1 a2 k1 c1 k2 c2 w hT (by omega) (by omega) h1.1 h2.1 _ _ _ (fun W hW => rnd_any n d x s (hT.go hW) (t1.next hW) (t2.next hW)) (fun W hW => rb12_any n d x s (t1.next hW) (t2.next hW)) hl
  · exact rbin_long n d x s a1 a2 k1 c1 k2 c2 w hT (by omega) (by omega) h1.1 h2.1 hl
end Go.Proofs.YthcndcanahhbcaaDoor

/-
  The law RoundBinary of layer 6, for every number, direction, sign, fraction and power of two: it is rounded as the document says, with just its flags, or refused; of lists above 1000 words only that it returns. No condition.
-/
set_option linter.unusedVariables false
set_option linter.unusedSimpArgs false
namespace Go.Proofs.YthcndcanahhbcaaDoor
open Go.ChangeShapes Go.WideShapes Go.ChangeAt Go.RowKit

set_option maxRecDepth 100000 in
theorem roundBinary_contract (H : Type) (enc : TypeId × Value → H) (W : World) (hT : Tab W) (base : Nat) (args : Array Value) (ds gs : List (DataW H)) (before : List MemPlace)
    (hval : ∀ (j : Nat) t v, Tryd.f3.params[j]? = some t → args[j]? = some v → Value.okWide Tryd.prog W .any base t v)
    (hW : DataW.Whole enc Tryd.prog Tryd.f3.params.toList Rows.roundBinarySpec.vars false W args.toList ds gs before) :
    Calls Tryd.prog 3 args W fun e W' => ∃ v, e = .returned v ∧ Rows.roundBinarySpec.post enc Tryd.prog Tryd.f3 false true false false W args v W' := by
  have hW' := hW
  have hlt := hW.lt
  obtain ⟨p, q, hA0, hV, rfl, hfz, hnd⟩ := hW
  have hA : DataW.TrodAll enc Tryd.prog W 0 (fun _ => true) true Tryd.f3.params.toList args.toList ds p := hA0
  rw [Tryd.params3] at hA hval
  obtain ⟨v0, vs0, d0, ds0, p0, q0, hargs0, rfl, rfl, h0, r0⟩ := trodAll_cons hA
  obtain ⟨v1, vs1, d1, ds1, p1, q1, rfl, rfl, rfl, h1, r1⟩ := trodAll_cons r0
  obtain ⟨v2, vs2, d2, ds2, p2, q2, rfl, rfl, rfl, h2, r2⟩ := trodAll_cons r1
  obtain ⟨v3, vs3, d3, ds3, p3, q3, rfl, rfl, rfl, h3, r3⟩ := trodAll_cons r2
  obtain ⟨v4, vs4, d4, ds4, p4, q4, rfl, rfl, rfl, h4, r4⟩ := trodAll_cons r3
  obtain ⟨v5, vs5, d5, ds5, p5, q5, rfl, rfl, rfl, h5, r5⟩ := trodAll_cons r4
  obtain ⟨rfl, rfl, rfl⟩ := trodAll_nil r5
  obtain rfl : args = #[v0, v1, v2, v3, v4, v5] := by cases args; simp_all
  obtain ⟨rfl, rfl⟩ := trodVars_none hV
  obtain ⟨z0, rfl, rfl, rfl, w0⟩ := open_int Tryd.underlying3 (hval 0 3 v0 rfl rfl) h0
  obtain ⟨z1, rfl, rfl, rfl, w1⟩ := open_int Tryd.underlying3 (hval 1 3 v1 rfl rfl) h1
  obtain ⟨z2, rfl, rfl, rfl⟩ := open_bool Tryd.underlying4 (hval 2 4 v2 rfl rfl) h2
  have t3 := h3
  obtain ⟨a3, n3, c3, x3, rfl, hN3⟩ := open_nat (hval 3 22 v3 rfl rfl) h3
  have t4 := h4
  obtain ⟨a4, n4, c4, x4, rfl, hN4⟩ := open_nat (hval 4 22 v4 rfl rfl) h4
  obtain ⟨z5, rfl, rfl, rfl, w5⟩ := open_int Tryd.underlying3 (hval 5 3 v5 rfl rfl) h5
  clear hA0
  simp only [List.append_nil] at hW' hlt
  refine (roundBinary_any z0 z1 z2 a3 n3 c3 x3 a4 n4 c4 x4 z5 W hT hN3 hN4).mono fun e W' ⟨he, hb⟩ => ?_
  subst he
  exact ⟨_, rfl, _, _, _, [], _, [], hW', trodAll_cons_mk (shut_bool Tryd.underlying4 _) trodAll_mk0, (trodAll_cons_mk (shut_int Tryd.underlying3 w0) (trodAll_cons_mk (shut_int Tryd.underlying3 w1) (trodAll_cons_mk (shut_bool Tryd.underlying4 _) (trodAll_cons_mk (Below.trod Tryd.laidOut Tryd.rec22 Tryd.row22 t3 hb (fun x hx => hlt x (by simp [hx]))) (trodAll_cons_mk (Below.trod Tryd.laidOut Tryd.rec22 Tryd.row22 t4 hb (fun x hx => hlt x (by simp [hx]))) (trodAll_cons_mk (shut_int Tryd.underlying3 w5) trodAll_mk0)))))), rfl, hb.frame _, fun h => by cases h⟩

theorem roundBinary_laid (os : Os) : laidMet Tryd.prog Rows.roundBinaryRow.laid ((laidWorld os).forCall (fun _ _ => 0) ⟨#[], #[.int .i64 0, .int .i64 0, .bool false, .slice none 0 0, .slice none 0 0, .int .i64 0], []⟩).memory :=
  laidMet_of_run' 8 (by kernel_rfl) (by kernel_rfl)
theorem roundBinary_reads (os : Os) {H : Type} (enc : TypeId × Value → H) : ∃ places, DataW.whole enc Tryd.prog ((laidWorld os).forCall (fun _ _ => 0) ⟨#[], #[.int .i64 0, .int .i64 0, .bool false, .slice none 0 0, .slice none 0 0, .int .i64 0], []⟩).memory Tryd.f3.params.toList Rows.roundBinarySpec.vars false (#[.int .i64 0, .int .i64 0, .bool false, .slice none 0 0, .slice none 0 0, .int .i64 0] : Array Value).toList 8 = some ([.lit (.int .i64 0), .lit (.int .i64 0), .lit (.bool false), .nil, .nil, .lit (.int .i64 0)], [], places) :=
  ⟨[], by kernel_rfl⟩

set_option maxRecDepth 100000 in
theorem roundBinary_lifted (os : Os) (started : os.Started) (H : Type) (enc : TypeId × Value → H) (F : Stop.Interp) :
    ReturnsInHanded {} Tryd.checked os 3 .any ((OpenSpec.ofChange Rows.roundBinarySpec).preRow enc Tryd.prog Tryd.f3 Rows.roundBinaryRow.domain false Rows.roundBinaryRow.laid) (((OpenSpec.ofChange Rows.roundBinarySpec).at F).post enc Tryd.prog Tryd.f3 false true false false) := by
  obtain ⟨places, hx⟩ := roundBinary_reads os enc
  refine returnsInHanded_of_row (C := Tryd.checked) (s := OpenSpec.ofChange Rows.roundBinarySpec) Tryd.own started (by kernel_rfl) Tryd.func3
    (witness_row_at (enc := enc) (C := Tryd.checked) false (laidWorld os) #[.int .i64 0, .int .i64 0, .bool false, .slice none 0 0, .slice none 0 0, .int .i64 0] rfl (by kernel_rfl) (by kernel_rfl) (by kernel_rfl)
      (OpenSpec.preRow_of_cond 8 hx (by kernel_rfl) (fun k hk => by cases hk) (by kernel_rfl) (roundBinary_laid os))) ?_
  intro W base args ds gs before hval hW _ _ _ hL _ _
  exact roundBinary_contract H enc W (tab_of_laid hL) base args ds gs before hval hW

theorem roundBinary_holds : Rows.RoundBinarySaid :=
  OpenClaim.holds_of_cond 3 Tryd.f3 rfl rfl rfl rfl rfl rfl rfl ⟨rfl, rfl, rfl, rfl, rfl⟩ rfl rfl rfl rfl rfl (by kernel_rfl) Tryd.func3 (by kernel_rfl)
    (of_decide_eq_true (by kernel_rfl)) (by unfold Func.isWrapper; first | (rw [if_pos (by decide +kernel)]; kernel_rfl) | (rw [if_neg (by decide +kernel)]; exact ⟨rfl, rfl⟩))
    (fun os started H enc _ F => by rw [OpenClaim.pre_eq_preRow]; exact roundBinary_lifted os started H enc F)

theorem roundBinary_plain (f : FuncId) (fn : Func) (hf : Tryd.pinned.checked.prog.funcNamed "caliper/caliperlaw06.RoundBinary" = some f) (hfn : Tryd.pinned.checked.prog.funcs[f]? = some fn) :
    false = Tryd.pinned.checked.prog.looks [] ∧ ∀ (j : Nat) t, fn.params[j]? = some t → Tryd.pinned.checked.prog.wantsStandIn t = false := by
  obtain rfl : f = 3 := Option.some.inj ((show Tryd.prog.funcNamed "caliper/caliperlaw06.RoundBinary" = some 3 by kernel_rfl).symm.trans hf) |>.symm
  obtain rfl : fn = Tryd.f3 := (Option.some.inj (Tryd.func3.symm.trans hfn)).symm
  refine ⟨by kernel_rfl, fun j t ht => ?_⟩
  rw [Tryd.params3] at ht
  have hm : t = 3 ∨ t = 4 ∨ t = 22 ∨ t = 3 := by simpa using Array.mem_of_getElem? ht
  rcases hm with rfl | rfl | rfl | rfl
  · exact (show Tryd.prog.wantsStandIn 3 = false by kernel_rfl)
  · exact (show Tryd.prog.wantsStandIn 4 = false by kernel_rfl)
  · exact (show Tryd.prog.wantsStandIn 22 = false by kernel_rfl)
  · exact (show Tryd.prog.wantsStandIn 3 = false by kernel_rfl)

theorem roundBinary_card : Rows.RoundBinaryCardSaid :=
  Claim7.holds_tied_plain_at .later [] _ _ _ _ roundBinary_holds (fun _ h => by cases h) (by kernel_rfl) (fun _ h => by cases h) roundBinary_row_tie rfl ⟨rfl, rfl⟩ (by kernel_rfl) rfl roundBinary_plain (by kernel_rfl)
end Go.Proofs.YthcndcanahhbcaaDoor
