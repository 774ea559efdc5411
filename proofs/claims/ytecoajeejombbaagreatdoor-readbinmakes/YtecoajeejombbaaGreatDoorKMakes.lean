/-
  The law ReadbinMakes of layer 8, for every number and direction and all parts: they are made a number as the document says, or refused; of parts with more than 10000 digits only that it returns. No condition.
-/
import Derived.Test.YtecoajeejombbaaGreatDoorJ45
import Derived.Test.YtecoajeejombbaaGreatDoorJ1
import Derived.Test.YtecoajeejombbaaGreatDoorCards
import Derived.Test.YtecoajeejombbaaGreatDoorTie
import Derived.Test.YtecoajeejombbaaGreatDoorJ46
set_option linter.unusedVariables false
set_option linter.unusedSectionVars false
set_option linter.unusedSimpArgs false
set_option maxRecDepth 20000
namespace Go.Proofs.YtecoajeejombbaaGreatDoor
open Go.RowKit
attribute [local irreducible] W4
section
variable (n d : Int) (c : Int) (s g : Bool) (l : List UInt8) (x : Int) (w : World) (hT : Tab w) (hT10 : Tb10 w)
include hT hT10
set_option maxHeartbeats 2000000 in
theorem mks_long (h : (10000 : Int) < (B l).size) :
    Calls Tryz.prog 4 #[.int .i64 n, .int .i64 d, PV c s g l x] w fun r w' => r = .returned (.bool true) ∧ Below w.heap.size w w' := by
  have c9 := awake8
  have hsm := cell_set_map
  unfold PV at *
  go_enter Tryz.func4, Tryz.ntmps4
  go_wp2_with (first | (go_at_call 9; refine (c9 _ (hT.go bgo) (hT10.next bgo)).mono ?_; rintro r w1 ⟨rfl, hb1⟩; clear c9; obtain ⟨hc1, hf1⟩ := bcell hb1; have hz1_0 : w.heap.size < w1.heap.size := lt_below hb1 ltg; have hl1_0 := Nat.le_of_lt hz1_0; have hA1 := bnext (w0 := w) bgo hb1; have hs1 := hA1.size; clear hb1))
  have c9 := awake8
  go_wp2_with (first | (go_at_call 9; refine (c9 _ (hT.go bgo) (hT10.next bgo)).mono ?_; rintro r w2 ⟨rfl, hb2⟩; clear c9; obtain ⟨hc2, hf2⟩ := bcell hb2; have hz2_0 : w.heap.size < w2.heap.size := lt_below hb2 ltg; have hl2_0 := Nat.le_of_lt hz2_0; have hA2 := bnext (w0 := w) bgo hb2; have hs2 := hA2.size; clear hb2))
  go_ret
  exact ⟨rfl, bgo⟩
set_option maxHeartbeats 4000000 in
theorem mks_k (h : ¬ (10000 : Int) < (B l).size) (V : Nat) (F E : Int)
    (c12 : ∀ W, Tab W → Tb10 W → Calls Tryz.prog 12 #[.int .i64 n, .int .i64 d, PV c s g l x] W fun r w' => r = .returned (.tuple #[A4 V, .int .i64 F, .int .i64 E]) ∧ Below W.heap.size W w')
    (c13 : ∀ W, Tb10 W → Calls Tryz.prog 13 #[.int .i64 n, .int .i64 d, PV c s g l x] W fun r w' => r = .returned (.tuple #[A4 V, .int .i64 F, .int .i64 E]) ∧ Below W.heap.size W w') :
    Calls Tryz.prog 4 #[.int .i64 n, .int .i64 d, PV c s g l x] w fun r w' => r = .returned (.bool true) ∧ Below w.heap.size w w' := by
  have c9 := awake8
  have hself := A4_self V
  have hsm := cell_set_map
  unfold PV at *
  go_enter Tryz.func4, Tryz.ntmps4
  go_wp2_with (first | (go_at_call 9; refine (c9 _ (hT.go bgo) (hT10.next bgo)).mono ?_; rintro r w1 ⟨rfl, hb1⟩; obtain ⟨hc1, hf1⟩ := bcell hb1; have hz1_0 : w.heap.size < w1.heap.size := lt_below hb1 ltg; have hl1_0 := Nat.le_of_lt hz1_0; have hA1 := bnext (w0 := w) bgo hb1; have hs1 := hA1.size; clear hb1) | (go_at_call 12; refine (c12 _ (hT.go bgo) (hT10.next bgo)).mono ?_; rintro r w2 ⟨rfl, hb2⟩; obtain ⟨hc2, hf2⟩ := bcell hb2; have hz2_0 : w.heap.size < w2.heap.size := lt_below hb2 ltg; have hl2_0 := Nat.le_of_lt hz2_0; have hA2 := bnext (w0 := w) bgo hb2; have hs2 := hA2.size; clear hb2) | (go_at_call 13; refine (c13 _ (hT10.next bgo)).mono ?_; rintro r w3 ⟨rfl, hb3⟩; obtain ⟨hc3, hf3⟩ := bcell hb3; have hz3_0 : w.heap.size < w3.heap.size := lt_below hb3 ltg; have hl3_0 := Nat.le_of_lt hz3_0; have hz3_1 : w2.heap.size < w3.heap.size := lt_below hb3 ltg; have hl3_1 := Nat.le_of_lt hz3_1; have hA3 := bnext (w0 := w) bgo hb3; have hs3 := hA3.size; clear hb3))
  go_ret
  exact ⟨by simp, bgo⟩
end
theorem readbinMakes_any (n d : Int) (p : Prt) (w : World) (hT : Tab w) (hT10 : Tb10 w) (he : -9223372036854775808 ≤ p.ex ∧ p.ex ≤ 9223372036854775807) :
    Calls Tryz.prog 4 #[.int .i64 n, .int .i64 d, p.v] w fun r w' => r = .returned (.bool true) ∧ Below w.heap.size w w' := by
  by_cases h : (10000 : Int) < (B p.dig).size
  · exact mks_long n d p.cls p.sg p.sn p.dig p.ex w hT hT10 h
  · obtain ⟨V, F, E, h1, h2⟩ := makes_same n d p (by rw [B_size] at h; omega) he
    exact mks_k n d p.cls p.sg p.sn p.dig p.ex w hT hT10 h V F E h1 h2
end Go.Proofs.YtecoajeejombbaaGreatDoor

set_option maxRecDepth 100000
namespace Go.Proofs.YtecoajeejombbaaGreatDoor
open Go.ChangeShapes Go.WideShapes Go.ChangeAt Go.RowKit

theorem readbinMakes_contract (H : Type) (enc : TypeId × Value → H) (W : World) (hT : Tab W ∧ Tb10 W) (base : Nat) (args : Array Value) (ds gs : List (DataW H)) (before : List MemPlace)
    (hval : ∀ (j : Nat) t v, Tryz.f4.params[j]? = some t → args[j]? = some v → Value.okWide Tryz.prog W .any base t v)
    (hW : DataW.Whole enc Tryz.prog Tryz.f4.params.toList Rows.readbinMakesSpec.vars false W args.toList ds gs before) :
    Calls Tryz.prog 4 args W fun e W' => ∃ v, e = .returned v ∧ Rows.readbinMakesSpec.post enc Tryz.prog Tryz.f4 false true false false W args v W' := by
  have hW' := hW
  have hlt := hW.lt
  obtain ⟨p, q, hA0, hV, rfl, hfz, hnd⟩ := hW
  have hA : DataW.TrodAll enc Tryz.prog W 0 (fun _ => true) true Tryz.f4.params.toList args.toList ds p := hA0
  rw [Tryz.params4] at hA hval
  obtain ⟨v0, vs0, d0, ds0, p0, q0, hargs0, rfl, rfl, h0, r0⟩ := trodAll_cons hA
  obtain ⟨v1, vs1, d1, ds1, p1, q1, rfl, rfl, rfl, h1, r1⟩ := trodAll_cons r0
  obtain ⟨v2, vs2, d2, ds2, p2, q2, rfl, rfl, rfl, h2, r2⟩ := trodAll_cons r1
  obtain ⟨rfl, rfl, rfl⟩ := trodAll_nil r2
  obtain rfl : args = #[v0, v1, v2] := by cases args; simp_all
  obtain ⟨rfl, rfl⟩ := trodVars_none hV
  obtain ⟨z0, rfl, rfl, rfl, w0⟩ := open_int Tryz.underlying3 (hval 0 3 v0 rfl rfl) h0
  obtain ⟨z1, rfl, rfl, rfl, w1⟩ := open_int Tryz.underlying3 (hval 1 3 v1 rfl rfl) h1
  have t2 := h2
  obtain ⟨P2, hb2, rfl, rfl⟩ := open_parts (hval 2 31 v2 rfl rfl) h2
  clear hA0
  simp only [List.append_nil] at hW' hlt
  have cc := readbinMakes_any z0 z1 P2 W hT.1 hT.2 hb2
  refine cc.mono fun e W' ⟨he, hb⟩ => ?_
  subst he
  exact ⟨_, rfl, _, _, _, [], _, [], hW', trodAll_cons_mk (shut_bool Tryz.underlying4 _) trodAll_mk0, (trodAll_cons_mk (shut_int Tryz.underlying3 w0) (trodAll_cons_mk (shut_int Tryz.underlying3 w1) (trodAll_cons_mk (Below.trod Tryz.laidOut Tryz.rec31 Tryz.row31 t2 hb (fun x hx => hlt x (by simp [hx]))) trodAll_mk0))), rfl, hb.frame _, fun h => by cases h⟩

theorem readbinMakes_laid (os : Os) : laidMet Tryz.prog Rows.readbinMakesRow.laid ((laidWorld8 os).forCall (fun _ _ => 0) ⟨#[], #[.int .i64 0, .int .i64 0, .agg #[.int .i64 0, .bool false, .bool false, .string ⟨#[]⟩, .int .i64 0]], []⟩).memory :=
  laidMet_of_run' 8 (by kernel_rfl) (by kernel_rfl)
theorem readbinMakes_reads (os : Os) {H : Type} (enc : TypeId × Value → H) : ∃ places, DataW.whole enc Tryz.prog ((laidWorld8 os).forCall (fun _ _ => 0) ⟨#[], #[.int .i64 0, .int .i64 0, .agg #[.int .i64 0, .bool false, .bool false, .string ⟨#[]⟩, .int .i64 0]], []⟩).memory Tryz.f4.params.toList Rows.readbinMakesSpec.vars false (#[.int .i64 0, .int .i64 0, .agg #[.int .i64 0, .bool false, .bool false, .string ⟨#[]⟩, .int .i64 0]] : Array Value).toList 8 = some ([.lit (.int .i64 0), .lit (.int .i64 0), .agg [.lit (.int .i64 0), .lit (.bool false), .lit (.bool false), .lit (.string []), .lit (.int .i64 0)]], [], places) :=
  ⟨[], by kernel_rfl⟩

set_option maxRecDepth 100000 in
theorem readbinMakes_lifted (os : Os) (started : os.Started) (H : Type) (enc : TypeId × Value → H) (F : Stop.Interp) :
    ReturnsInHanded {} Tryz.checked os 4 .any ((OpenSpec.ofChange Rows.readbinMakesSpec).preRow enc Tryz.prog Tryz.f4 Rows.readbinMakesRow.domain false Rows.readbinMakesRow.laid) (((OpenSpec.ofChange Rows.readbinMakesSpec).at F).post enc Tryz.prog Tryz.f4 false true false false) := by
  obtain ⟨places, hx⟩ := readbinMakes_reads os enc
  refine returnsInHanded_of_row (C := Tryz.checked) (s := OpenSpec.ofChange Rows.readbinMakesSpec) Tryz.own started (by kernel_rfl) Tryz.func4
    (witness_row_at (enc := enc) (C := Tryz.checked) false (laidWorld8 os) #[.int .i64 0, .int .i64 0, .agg #[.int .i64 0, .bool false, .bool false, .string ⟨#[]⟩, .int .i64 0]] rfl (by kernel_rfl) (by kernel_rfl) (by kernel_rfl)
      (OpenSpec.preRow_of_cond 8 hx (by kernel_rfl) (fun k hk => by cases hk) (by kernel_rfl) (readbinMakes_laid os))) ?_
  intro W base args ds gs before hval hW _ _ _ hL _ _
  exact readbinMakes_contract H enc W ⟨tab_of_list hL, pw10_of_list hL⟩ base args ds gs before hval hW

theorem readbinMakes_holds : Rows.ReadbinMakesSaid :=
  OpenClaim.holds_of_cond 4 Tryz.f4 rfl rfl rfl rfl rfl rfl rfl ⟨rfl, rfl, rfl, rfl, rfl⟩ rfl rfl rfl rfl rfl (by kernel_rfl) Tryz.func4 (by kernel_rfl)
    (of_decide_eq_true (by kernel_rfl)) (by unfold Func.isWrapper; first | (rw [if_pos (by decide +kernel)]; kernel_rfl) | (rw [if_neg (by decide +kernel)]; exact ⟨rfl, rfl⟩))
    (fun os started H enc _ F => by rw [OpenClaim.pre_eq_preRow]; exact readbinMakes_lifted os started H enc F)

theorem readbinMakes_plain (f : FuncId) (fn : Func) (hf : Tryz.pinned.checked.prog.funcNamed "caliper/caliperlaw08.ReadbinMakes" = some f) (hfn : Tryz.pinned.checked.prog.funcs[f]? = some fn) :
    false = Tryz.pinned.checked.prog.looks [] ∧ ∀ (j : Nat) t, fn.params[j]? = some t → Tryz.pinned.checked.prog.wantsStandIn t = false := by
  obtain rfl : f = 4 := Option.some.inj ((show Tryz.prog.funcNamed "caliper/caliperlaw08.ReadbinMakes" = some 4 by kernel_rfl).symm.trans hf) |>.symm
  obtain rfl : fn = Tryz.f4 := (Option.some.inj (Tryz.func4.symm.trans hfn)).symm
  refine ⟨by kernel_rfl, fun j t ht => ?_⟩
  rw [Tryz.params4] at ht
  have hm : t = 3 ∨ t = 31 := by simpa using Array.mem_of_getElem? ht
  rcases hm with rfl | rfl
  · exact (show Tryz.prog.wantsStandIn 3 = false by kernel_rfl)
  · exact (show Tryz.prog.wantsStandIn 31 = false by kernel_rfl)

theorem readbinMakes_card : Rows.ReadbinMakesCardSaid :=
  Claim7.holds_tied_plain_at .later [] _ _ _ _ readbinMakes_holds (fun _ h => by cases h) (by kernel_rfl) (fun _ h => by cases h) readbinMakes_row_tie rfl ⟨rfl, rfl⟩ (by kernel_rfl) rfl readbinMakes_plain (by kernel_rfl)
end Go.Proofs.YtecoajeejombbaaGreatDoor
