/-
  The law RoundKeeps of layer 6, for every number, pattern, direction and factor: a number of the format comes out as it is, without flags, however its fraction is written. No condition.
-/
import Derived.Test.YthcndcanahhbcaaDoorJ23
import Derived.Test.YthcndcanahhbcaaDoorCards
import Derived.Test.YthcndcanahhbcaaDoorTie
import Derived.Test.YthcndcanahhbcaaDoorJ9
/-
  The law RoundKeeps, for all that it is handed.
-/
set_option linter.unusedVariables false
set_option linter.unusedSectionVars false
set_option linter.unusedSimpArgs false
set_option maxRecDepth 20000
namespace Go.Proofs.YthcndcanahhbcaaDoor
open Go.RowKit

theorem bl_mul (a b : Nat) : bl (a * b) ≤ bl a + bl b := by
  refine bl_le.2 ?_
  rw [Nat.pow_add]
  have h1 := bl_le.1 (Nat.le_refl (bl a))
  have h2 := bl_le.1 (Nat.le_refl (bl b))
  exact Nat.mul_lt_mul'' h1 h2
theorem roundKeeps_any (n : Int) (B : Nat) (d z : Int) (w : World) (hT : Tab w) (hB : B < 2 ^ 256) (hz : 0 ≤ z ∧ z ≤ 18446744073709551615) :
    Calls Tryd.prog 5 #[.int .i64 n, A4 B, .int .i64 d, .int .u64 z] w fun r w' => r = .returned (.bool true) ∧ Below w.heap.size w w' := by
  have c15 := fun W (hT : Tab W) => unpack_any n B W hT hB
  have c16 := fun W => rdir_any d W
  by_cases hg : goodN n B
  · have hE : unE n B = 0 := if_pos hg
    obtain ⟨hpe, hpv⟩ := back_un hg
    obtain ⟨⟨c, s, g, q, k⟩, hu⟩ : ∃ D, unD n B = D := ⟨_, rfl⟩
    rw [hu] at hpe hpv
    have c15' : ∀ W, Tab W → Calls Tryd.prog 15 #[.int .i64 n, A4 B] W fun r w' => r = .returned (.tuple #[DV c s g q k, .int .i64 0]) ∧ Below W.heap.size W w' := by
      intro W hT'
      have := c15 W hT'
      rw [hu, hE] at this
      exact this
    by_cases hc : c = 1
    · by_cases hk : knB d
      · subst hc
        have hb := hg.1
        have hi : isD (fN n) (leastN n) (mostN n) ⟨1, s, g, q, k⟩ := by
          unfold pkE at hpe
          rw [if_pos hb] at hpe
          by_cases h : isD (fN n) (leastN n) (mostN n) ⟨1, s, g, q, k⟩
          · exact h
          · rw [if_neg h] at hpe; cases hpe
        have hgf : g = false ∧ k < 2 ^ (fN n + 1) := by
          rcases hi with ⟨_, h1, h2, _⟩ | ⟨h, _⟩ | ⟨h, _⟩
          · exact ⟨h1, h2⟩
          · have h' : (1 : Int) = 2 := h
            omega
          · have h' : (1 : Int) = 3 := h
            omega
        obtain ⟨rfl, hkl⟩ := hgf
        have hf := (bin_fm hb).f240
        have hk256 : k < 2 ^ 256 := Nat.lt_of_lt_of_le hkl (Nat.pow_le_pow_right (by decide) (by omega))
        obtain ⟨F, hF⟩ : ∃ F : Nat, z / 2 + 1 = (F : Int) := ⟨(z / 2 + 1).toNat, by omega⟩
        have hF0 : F ≠ 0 := by omega
        have hFb : F < 2 ^ 64 := by
          have : (2 : Nat) ^ 64 = 18446744073709551616 := by decide
          omega
        have hbk : bl k ≤ 256 := bl_le.2 hk256
        have hbF : bl F ≤ 64 := bl_le.2 hFb
        have hbm := bl_mul k F
        have e1 := keep_eq d hb hi (b := F) hF0
        have e2 := keep_eq d hb hi (b := 1) (by decide)
        rw [Nat.mul_one] at e2
        refine keeps_k n d z B w hT q s k F hz hF c15' (fun W => ?_) (fun W g v h1 h2 h3 => times_four h1 h2 hk256 (by decide) h3) (fun W v v' hT' h1 h2 => ?_) (fun W hT' => ?_)
        · have := c16 W
          rw [decide_eq_true hk] at this
          exact this
        · have := rnd_good n d q s hT' ((nv_nt h1.nv).more (by decide)) ((nv_nt h2).more (by decide)) hb hk hF0 (by omega) (by omega)
          rw [e1.1, e1.2, hpv] at this
          exact this
        · have := scaled_good n d q s k W hT' hb hk hk256
          rw [e2.1, e2.2, hpv] at this
          exact this
      · refine keeps_e n d z B w hT c q 0 s g k false (Or.inr (Or.inr ⟨by decide, by rw [hc]; decide, rfl⟩)) c15' (fun W => ?_)
        have := c16 W
        rw [decide_eq_false hk] at this
        exact this
    · exact keeps_e n d z B w hT c q 0 s g k _ (Or.inr (Or.inl ⟨by decide, by simpa using hc⟩)) c15' c16
  · have hE : unE n B = 1 := if_neg hg
    obtain ⟨⟨c, s, g, q, k⟩, hu⟩ : ∃ D, unD n B = D := ⟨_, rfl⟩
    have c15' : ∀ W, Tab W → Calls Tryd.prog 15 #[.int .i64 n, A4 B] W fun r w' => r = .returned (.tuple #[DV c s g q k, .int .i64 1]) ∧ Below W.heap.size W w' := by
      intro W hT'
      have := c15 W hT'
      rw [hu, hE] at this
      exact this
    exact keeps_e n d z B w hT c q 1 s g k _ (Or.inl (by decide)) c15' c16
end Go.Proofs.YthcndcanahhbcaaDoor

/-
  The law RoundKeeps of layer 6, for every number, pattern, direction and factor: a number of the format comes out as it is, without flags, however its fraction is written. No condition.
-/
set_option linter.unusedVariables false
set_option linter.unusedSimpArgs false
namespace Go.Proofs.YthcndcanahhbcaaDoor
open Go.ChangeShapes Go.WideShapes Go.ChangeAt Go.RowKit

set_option maxRecDepth 100000 in
theorem roundKeeps_contract (H : Type) (enc : TypeId × Value → H) (W : World) (hT : Tab W) (base : Nat) (args : Array Value) (ds gs : List (DataW H)) (before : List MemPlace)
    (hval : ∀ (j : Nat) t v, Tryd.f5.params[j]? = some t → args[j]? = some v → Value.okWide Tryd.prog W .any base t v)
    (hW : DataW.Whole enc Tryd.prog Tryd.f5.params.toList Rows.roundKeepsSpec.vars false W args.toList ds gs before) :
    Calls Tryd.prog 5 args W fun e W' => ∃ v, e = .returned v ∧ Rows.roundKeepsSpec.post enc Tryd.prog Tryd.f5 false true false false W args v W' := by
  have hW' := hW
  have hlt := hW.lt
  obtain ⟨p, q, hA0, hV, rfl, hfz, hnd⟩ := hW
  have hA : DataW.TrodAll enc Tryd.prog W 0 (fun _ => true) true Tryd.f5.params.toList args.toList ds p := hA0
  rw [Tryd.params5] at hA hval
  obtain ⟨v0, vs0, d0, ds0, p0, q0, hargs0, rfl, rfl, h0, r0⟩ := trodAll_cons hA
  obtain ⟨v1, vs1, d1, ds1, p1, q1, rfl, rfl, rfl, h1, r1⟩ := trodAll_cons r0
  obtain ⟨v2, vs2, d2, ds2, p2, q2, rfl, rfl, rfl, h2, r2⟩ := trodAll_cons r1
  obtain ⟨v3, vs3, d3, ds3, p3, q3, rfl, rfl, rfl, h3, r3⟩ := trodAll_cons r2
  obtain ⟨rfl, rfl, rfl⟩ := trodAll_nil r3
  obtain rfl : args = #[v0, v1, v2, v3] := by cases args; simp_all
  obtain ⟨rfl, rfl⟩ := trodVars_none hV
  obtain ⟨z0, rfl, rfl, rfl, w0⟩ := open_int Tryd.underlying3 (hval 0 3 v0 rfl rfl) h0
  have t1 := h1
  obtain ⟨x1, hx1, rfl, rfl⟩ := open_bits (hval 1 27 v1 rfl rfl) h1
  obtain ⟨z2, rfl, rfl, rfl, w2⟩ := open_int Tryd.underlying3 (hval 2 3 v2 rfl rfl) h2
  obtain ⟨z3, rfl, rfl, rfl, w3⟩ := open_int Tryd.underlying25 (hval 3 25 v3 rfl rfl) h3
  clear hA0
  simp only [List.append_nil] at hW' hlt
  refine (roundKeeps_any z0 x1 z2 z3 W hT hx1 (bounds_u64 w3)).mono fun e W' ⟨he, hb⟩ => ?_
  subst he
  exact ⟨_, rfl, _, _, _, [], _, [], hW', trodAll_cons_mk (shut_bool Tryd.underlying4 _) trodAll_mk0, (trodAll_cons_mk (shut_int Tryd.underlying3 w0) (trodAll_cons_mk (bits_stay t1) (trodAll_cons_mk (shut_int Tryd.underlying3 w2) (trodAll_cons_mk (shut_int Tryd.underlying25 w3) trodAll_mk0)))), rfl, hb.frame _, fun h => by cases h⟩

theorem roundKeeps_laid (os : Os) : laidMet Tryd.prog Rows.roundKeepsRow.laid ((laidWorld os).forCall (fun _ _ => 0) ⟨#[], #[.int .i64 0, .agg #[.int .u64 0, .int .u64 0, .int .u64 0, .int .u64 0], .int .i64 0, .int .u64 0], []⟩).memory :=
  laidMet_of_run' 8 (by kernel_rfl) (by kernel_rfl)
theorem roundKeeps_reads (os : Os) {H : Type} (enc : TypeId × Value → H) : ∃ places, DataW.whole enc Tryd.prog ((laidWorld os).forCall (fun _ _ => 0) ⟨#[], #[.int .i64 0, .agg #[.int .u64 0, .int .u64 0, .int .u64 0, .int .u64 0], .int .i64 0, .int .u64 0], []⟩).memory Tryd.f5.params.toList Rows.roundKeepsSpec.vars false (#[.int .i64 0, .agg #[.int .u64 0, .int .u64 0, .int .u64 0, .int .u64 0], .int .i64 0, .int .u64 0] : Array Value).toList 8 = some ([.lit (.int .i64 0), .agg [.lit (.int .u64 0), .lit (.int .u64 0), .lit (.int .u64 0), .lit (.int .u64 0)], .lit (.int .i64 0), .lit (.int .u64 0)], [], places) :=
  ⟨[], by kernel_rfl⟩

set_option maxRecDepth 100000 in
theorem roundKeeps_lifted (os : Os) (started : os.Started) (H : Type) (enc : TypeId × Value → H) (F : Stop.Interp) :
    ReturnsInHanded {} Tryd.checked os 5 .any ((OpenSpec.ofChange Rows.roundKeepsSpec).preRow enc Tryd.prog Tryd.f5 Rows.roundKeepsRow.domain false Rows.roundKeepsRow.laid) (((OpenSpec.ofChange Rows.roundKeepsSpec).at F).post enc Tryd.prog Tryd.f5 false true false false) := by
  obtain ⟨places, hx⟩ := roundKeeps_reads os enc
  refine returnsInHanded_of_row (C := Tryd.checked) (s := OpenSpec.ofChange Rows.roundKeepsSpec) Tryd.own started (by kernel_rfl) Tryd.func5
    (witness_row_at (enc := enc) (C := Tryd.checked) false (laidWorld os) #[.int .i64 0, .agg #[.int .u64 0, .int .u64 0, .int .u64 0, .int .u64 0], .int .i64 0, .int .u64 0] rfl (by kernel_rfl) (by kernel_rfl) (by kernel_rfl)
      (OpenSpec.preRow_of_cond 8 hx (by kernel_rfl) (fun k hk => by cases hk) (by kernel_rfl) (roundKeeps_laid os))) ?_
  intro W base args ds gs before hval hW _ _ _ hL _ _
  exact roundKeeps_contract H enc W (tab_of_laid hL) base args ds gs before hval hW

theorem roundKeeps_holds : Rows.RoundKeepsSaid :=
  OpenClaim.holds_of_cond 5 Tryd.f5 rfl rfl rfl rfl rfl rfl rfl ⟨rfl, rfl, rfl, rfl, rfl⟩ rfl rfl rfl rfl rfl (by kernel_rfl) Tryd.func5 (by kernel_rfl)
    (of_decide_eq_true (by kernel_rfl)) (by unfold Func.isWrapper; first | (rw [if_pos (by decide +kernel)]; kernel_rfl) | (rw [if_neg (by decide +kernel)]; exact ⟨rfl, rfl⟩))
    (fun os started H enc _ F => by rw [OpenClaim.pre_eq_preRow]; exact roundKeeps_lifted os started H enc F)

theorem roundKeeps_plain (f : FuncId) (fn : Func) (hf : Tryd.pinned.checked.prog.funcNamed "caliper/caliperlaw06.RoundKeeps" = some f) (hfn : Tryd.pinned.checked.prog.funcs[f]? = some fn) :
    false = Tryd.pinned.checked.prog.looks [] ∧ ∀ (j : Nat) t, fn.params[j]? = some t → Tryd.pinned.checked.prog.wantsStandIn t = false := by
  obtain rfl : f = 5 := Option.some.inj ((show Tryd.prog.funcNamed "caliper/caliperlaw06.RoundKeeps" = some 5 by kernel_rfl).symm.trans hf) |>.symm
  obtain rfl : fn = Tryd.f5 := (Option.some.inj (Tryd.func5.symm.trans hfn)).symm
  refine ⟨by kernel_rfl, fun j t ht => ?_⟩
  rw [Tryd.params5] at ht
  have hm : t = 3 ∨ t = 27 ∨ t = 3 ∨ t = 25 := by simpa using Array.mem_of_getElem? ht
  rcases hm with rfl | rfl | rfl | rfl
  · exact (show Tryd.prog.wantsStandIn 3 = false by kernel_rfl)
  · exact (show Tryd.prog.wantsStandIn 27 = false by kernel_rfl)
  · exact (show Tryd.prog.wantsStandIn 3 = false by kernel_rfl)
  · exact (show Tryd.prog.wantsStandIn 25 = false by kernel_rfl)

theorem roundKeeps_card : Rows.RoundKeepsCardSaid :=
  Claim7.holds_tied_plain_at .later [] _ _ _ _ roundKeeps_holds (fun _ h => by cases h) (by kernel_rfl) (fun _ h => by cases h) roundKeeps_row_tie rfl ⟨rfl, rfl⟩ (by kernel_rfl) rfl roundKeeps_plain (by kernel_rfl)
end Go.Proofs.YthcndcanahhbcaaDoor
