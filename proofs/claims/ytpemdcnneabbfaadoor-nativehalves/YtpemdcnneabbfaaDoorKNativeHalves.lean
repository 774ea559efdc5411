/-
  The law NativeHalves: the row and its card; no condition: the middle of two neighbouring float32 is narrowed to the even one.
-/
import Derived.Test.YtpemdcnneabbfaaDoorCards
import Derived.Test.YtpemdcnneabbfaaDoorTie
import Derived.Test.YtpemdcnneabbfaaDoorJ40
import Derived.Test.YtpemdcnneabbfaaDoorJ16
import Derived.Test.YtpemdcnneabbfaaDoorJ28
set_option linter.unusedVariables false
set_option linter.unusedSimpArgs false
set_option maxRecDepth 100000
namespace Go.Proofs.YtpemdcnneabbfaaDoor
open Go.ChangeShapes Go.WideShapes Go.ChangeAt Go.RowKit

theorem nativeHalves_contract (H : Type) (enc : TypeId × Value → H) (W : World) (hT : Tab W) (base : Nat) (args : Array Value) (ds gs : List (DataW H)) (before : List MemPlace)
    (hval : ∀ (j : Nat) t v, Tryd.f6.params[j]? = some t → args[j]? = some v → Value.okWide Tryd.prog W .any base t v)
    (hW : DataW.Whole enc Tryd.prog Tryd.f6.params.toList Rows.nativeHalvesSpec.vars false W args.toList ds gs before) :
    Calls Tryd.prog 6 args W fun e W' => ∃ v, e = .returned v ∧ Rows.nativeHalvesSpec.post enc Tryd.prog Tryd.f6 false true false false W args v W' := by
  have hW' := hW
  have hlt := hW.lt
  obtain ⟨p, q, hA0, hV, rfl, hfz, hnd⟩ := hW
  have hA : DataW.TrodAll enc Tryd.prog W 0 (fun _ => true) true Tryd.f6.params.toList args.toList ds p := hA0
  rw [Tryd.params6] at hA hval
  obtain ⟨v0, vs0, d0, ds0, p0, q0, hargs0, rfl, rfl, h0, r0⟩ := trodAll_cons hA
  obtain ⟨rfl, rfl, rfl⟩ := trodAll_nil r0
  obtain rfl : args = #[v0] := by cases args; simp_all
  obtain ⟨rfl, rfl⟩ := trodVars_none hV
  obtain ⟨z0, rfl, rfl, rfl, w0⟩ := open_int Tryd.underlying23 (hval 0 23 v0 rfl rfl) h0
  clear hA0
  simp only [List.append_nil] at hW' hlt
  have cc := nativeHalves_any z0 W hT (bounds_u32 w0)
  refine cc.mono fun e W' ⟨he, hb⟩ => ?_
  subst he
  exact ⟨_, rfl, _, _, _, [], _, [], hW', trodAll_cons_mk (shut_bool Tryd.underlying4 _) trodAll_mk0, (trodAll_cons_mk (shut_int Tryd.underlying23 w0) trodAll_mk0), rfl, hb.frame _, fun h => by cases h⟩

theorem nativeHalves_laid (os : Os) : laidMet Tryd.prog Rows.nativeHalvesRow.laid ((laidWorld os).forCall (fun _ _ => 0) ⟨#[], #[.int .u32 0], []⟩).memory :=
  laidMet_of_run' 8 (by kernel_rfl) (by kernel_rfl)
theorem nativeHalves_reads (os : Os) {H : Type} (enc : TypeId × Value → H) : ∃ places, DataW.whole enc Tryd.prog ((laidWorld os).forCall (fun _ _ => 0) ⟨#[], #[.int .u32 0], []⟩).memory Tryd.f6.params.toList Rows.nativeHalvesSpec.vars false (#[.int .u32 0] : Array Value).toList 8 = some ([.lit (.int .u32 0)], [], places) :=
  ⟨[], by kernel_rfl⟩

set_option maxRecDepth 100000 in
theorem nativeHalves_lifted (os : Os) (started : os.Started) (H : Type) (enc : TypeId × Value → H) (F : Stop.Interp) :
    ReturnsInHanded {} Tryd.checked os 6 .any ((OpenSpec.ofChange Rows.nativeHalvesSpec).preRow enc Tryd.prog Tryd.f6 Rows.nativeHalvesRow.domain false Rows.nativeHalvesRow.laid) (((OpenSpec.ofChange Rows.nativeHalvesSpec).at F).post enc Tryd.prog Tryd.f6 false true false false) := by
  obtain ⟨places, hx⟩ := nativeHalves_reads os enc
  refine returnsInHanded_of_row (C := Tryd.checked) (s := OpenSpec.ofChange Rows.nativeHalvesSpec) Tryd.own started (by kernel_rfl) Tryd.func6
    (witness_row_at (enc := enc) (C := Tryd.checked) false (laidWorld os) #[.int .u32 0] rfl (by kernel_rfl) (by kernel_rfl) (by kernel_rfl)
      (OpenSpec.preRow_of_cond 8 hx (by kernel_rfl) (fun k hk => by cases hk) (by kernel_rfl) (nativeHalves_laid os))) ?_
  intro W base args ds gs before hval hW _ _ _ hL _ _
  exact nativeHalves_contract H enc W (tab_of_laid hL) base args ds gs before hval hW

theorem nativeHalves_k10 : (Rows.nativeHalvesRow.inPlace == Tryd.pinned.checked.prog.inPlace 6) = true := by kernel_rfl
theorem nativeHalves_k11 : (Rows.nativeHalvesRow.unfollowed == Tryd.pinned.checked.prog.unfollowed 6) = true := by kernel_rfl
theorem nativeHalves_k12 : (Rows.nativeHalvesRow.recurses == Tryd.pinned.checked.prog.recurses 6) = true := by kernel_rfl
theorem nativeHalves_k13 : (Rows.nativeHalvesRow.named == Tryd.pinned.checked.prog.varsNamed 6) = true := by kernel_rfl
theorem nativeHalves_closed : joinedFacts Tryd.pinned.checked.prog 6 Tryd.f6 (OpenSpec.ofChange Rows.nativeHalvesSpec).bare Rows.nativeHalvesRow = true := by
  unfold joinedFacts
  rw [nativeHalves_k10, nativeHalves_k11, nativeHalves_k12, nativeHalves_k13]
  kernel_rfl
theorem nativeHalves_holds : Rows.NativeHalvesSaid :=
  OpenClaim.holds_of_cond 6 Tryd.f6 rfl rfl rfl rfl rfl rfl rfl ⟨rfl, rfl, rfl, rfl, rfl⟩ rfl rfl rfl rfl rfl (by kernel_rfl) Tryd.func6 nativeHalves_closed
    (of_decide_eq_true (by kernel_rfl)) (by unfold Func.isWrapper; first | (rw [if_pos (by decide +kernel)]; kernel_rfl) | (rw [if_neg (by decide +kernel)]; exact ⟨rfl, rfl⟩))
    (fun os started H enc _ F => by rw [OpenClaim.pre_eq_preRow]; exact nativeHalves_lifted os started H enc F)

theorem nativeHalves_plain (f : FuncId) (fn : Func) (hf : Tryd.pinned.checked.prog.funcNamed "caliper/caliperlaw21.NativeHalves" = some f) (hfn : Tryd.pinned.checked.prog.funcs[f]? = some fn) :
    false = Tryd.pinned.checked.prog.looks [] ∧ ∀ (j : Nat) t, fn.params[j]? = some t → Tryd.pinned.checked.prog.wantsStandIn t = false := by
  obtain rfl : f = 6 := Option.some.inj ((show Tryd.prog.funcNamed "caliper/caliperlaw21.NativeHalves" = some 6 by kernel_rfl).symm.trans hf) |>.symm
  obtain rfl : fn = Tryd.f6 := (Option.some.inj (Tryd.func6.symm.trans hfn)).symm
  refine ⟨by kernel_rfl, fun j t ht => ?_⟩
  rw [Tryd.params6] at ht
  have hm : t = 23 := by simpa using Array.mem_of_getElem? ht
  rcases hm with rfl
  · exact (show Tryd.prog.wantsStandIn 23 = false by kernel_rfl)

theorem nativeHalves_card : Rows.NativeHalvesCardSaid :=
  Claim7.holds_tied_plain_at .later [] _ _ _ _ nativeHalves_holds (fun _ h => by cases h) (by kernel_rfl) (fun _ h => by cases h) nativeHalves_row_tie rfl ⟨rfl, rfl⟩ (by kernel_rfl) rfl nativeHalves_plain (by kernel_rfl)
end Go.Proofs.YtpemdcnneabbfaaDoor
