/-
  The law DescPowers: it returns true.
-/
import Derived.Test.YtcjbdmgaooojlaaDoorRg4
set_option linter.unusedVariables false
set_option linter.unusedSimpArgs false
set_option maxRecDepth 20000
namespace Go.Proofs.YtcjbdmgaooojlaaDoor
open Go.RowKit

set_option maxHeartbeats 4000000 in
theorem descPowers_ok (N n : Int) (w : World) (hT : Tab w) (hN : okN N) :
    Calls Tryd.prog 6 #[.int .i64 N, .int .i64 n] w fun e w' => e = .returned (.bool true) ∧ Below w.heap.size w w' := by
  have hE : infoE N = 0 := if_pos hN
  have key : (1000 < n ∧ n ≤ 12000) ∨ (1000 < n ∧ 12000 < n) ∨ n ≤ 1000 := by omega
  have c18 := fun w hT => newp_any N w hT hN
  have c11 := fun w => rofv_any N w
  rw [hE] at c11
  have c19 := fun g m w h => power_all g N m w hN h
  have hbase := base_two_ten hN
  have hfb := fields_bounds N
  have kb : (baseN N == 10) = true ∧ pbase N = 10 ∨ (baseN N == 10) = false ∧ pbase N = 5 := by
    unfold pbase
    rcases hbase with e | e
    · exact Or.inr ⟨by rw [e]; rfl, if_pos e⟩
    · exact Or.inl ⟨by rw [e]; rfl, if_neg (by omega)⟩
  rcases kb with ⟨kb, hpb⟩ | ⟨kb, hpb⟩
  all_goals
    rw [hpb] at c19
    rcases key with ⟨k1, k2⟩ | ⟨k1, k2⟩ | k1
    all_goals
      go_enter Tryd.func6, Tryd.ntmps6
      go_wp2_with (first
        | (go_at_call 9; refine (awake_any _ hT).mono ?_; rintro e wa ⟨rfl, hA⟩; have hTa := hT.go hA)
        | (go_at_call 18; refine (c18 _ hTa).mono ?_; rintro e wb ⟨g, rfl, hF, hga, hb⟩; have hgw := Nat.le_trans hA.size hga; replace hA := hA.trans (hb.mono hA.size))
        | (go_at_call 11; refine (c11 _).mono ?_; rintro e wc ⟨rfl, hc⟩; replace hA := hA.trans (hc.mono hA.size)
           have hF' : Frs g N wc := PowB.next hF hc
           have hgc := hF'.lt
           replace hF := PowB.next hF' (below1' wc (.cells #[.int .i64 (numN N), .string (nameN N), .int .i64 (baseN N), .int .i64 (widthN N), .int .i64 (precN N), .int .i64 (expN N), .int .i64 (leastN N), .int .i64 (mostN N), .int .i64 (payN N), .bool (denseN N)] 28))
           replace hA := hA.alloc hA.size (.cells #[.int .i64 (numN N), .string (nameN N), .int .i64 (baseN N), .int .i64 (widthN N), .int .i64 (precN N), .int .i64 (expN N), .int .i64 (leastN N), .int .i64 (mostN N), .int .i64 (payN N), .bool (denseN N)] 28))
        | (go_at_call 19; refine (c19 _ _ _ (Or.inl hF)).mono ?_; rintro e wd ⟨o, k, c, z, rfl, hk, hNa, hva, hR, hK⟩
           have d2 : wd.cell? ⟨wc.heap.size, 2, none⟩ = some (.int .i64 (baseN N)) := (keep_cell hK (by simp) (by omega)).trans (by simp)
           have d4 : wd.cell? ⟨wc.heap.size, 4, none⟩ = some (.int .i64 (precN N)) := (keep_cell hK (by simp) (by omega)).trans (by simp)
           have hcd : wc.heap.size < wd.heap.size := by have := hK.size; rw [World.size_alloc] at this; omega
           replace hA := hA.trans (below_of_keep hK hgw hA.size))
        | (go_at_call 20; refine (rpower_all _ _ _).mono ?_; rintro e we ⟨o2, k2, c2, z2, rfl, hk2, hNb, hvb, hb2⟩
           replace d2 := (hb2.cell (p := ⟨wc.heap.size, 2, none⟩) hcd).trans d2
           replace d4 := (hb2.cell (p := ⟨wc.heap.size, 4, none⟩) hcd).trans d4
           replace hcd := Nat.lt_of_lt_of_le hcd hb2.size
           replace hNa := hNa.next hb2
           replace hR := hR.next hb2
           replace hA := hA.trans (hb2.mono hA.size)))
      refine reg14 (g := g) (gc := wc.heap.size) (N := N) hN rfl rfl rfl rfl rfl rfl rfl hk hk2 hNa hNb (hva.trans hvb.symm) hR hcd d2 d4 ?_
      intro a w' h4 hsz hdf hb
      go_wp2
      refine bodyPost_ret (v := .bool true) ?_ hdf ⟨rfl, hA.trans (hb.mono hA.size)⟩
      rw [results_tmp rfl]
      unfold slot at h4
      simp [h4]
theorem descPowers_any (N n : Int) (w : World) (hT : Tab w) :
    Calls Tryd.prog 6 #[.int .i64 N, .int .i64 n] w fun e w' => e = .returned (.bool true) ∧ Below w.heap.size w w' := by
  by_cases h : okN N
  · exact descPowers_ok N n w hT h
  · exact descPowers_bad N n w hT h
end Go.Proofs.YtcjbdmgaooojlaaDoor
