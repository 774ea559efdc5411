/-
  The law DescTells: it returns true.
-/
import Derived.Test.YtcjbdmgaooojlaaDoorAll
import Derived.Deep.RegionWith
set_option linter.unusedVariables false
set_option linter.unusedSimpArgs false
namespace Go.Proofs.YtcjbdmgaooojlaaDoor
open Go.RowKit

theorem Part.ten {w0 w : World} {g i : Nat} (h : Part w0 g 120 w) (hi : i < 12) :
    w.cell? ⟨g, i * 10, none⟩ = some (.int .i64 (numN (i + 1))) ∧ w.cell? ⟨g, i * 10 + 1, none⟩ = some (.string (nameN (i + 1))) ∧ w.cell? ⟨g, i * 10 + 2, none⟩ = some (.int .i64 (baseN (i + 1))) ∧ w.cell? ⟨g, i * 10 + 3, none⟩ = some (.int .i64 (widthN (i + 1))) ∧
    w.cell? ⟨g, i * 10 + 4, none⟩ = some (.int .i64 (precN (i + 1))) ∧ w.cell? ⟨g, i * 10 + 5, none⟩ = some (.int .i64 (expN (i + 1))) ∧ w.cell? ⟨g, i * 10 + 6, none⟩ = some (.int .i64 (leastN (i + 1))) ∧ w.cell? ⟨g, i * 10 + 7, none⟩ = some (.int .i64 (mostN (i + 1))) ∧
    w.cell? ⟨g, i * 10 + 8, none⟩ = some (.int .i64 (payN (i + 1))) ∧ w.cell? ⟨g, i * 10 + 9, none⟩ = some (.bool (denseN (i + 1))) := by
  have e : ∀ k, k < 10 → w.cell? ⟨g, i * 10 + k, none⟩ = #[Value.int .i64 (numN (i + 1)), .string (nameN (i + 1)), .int .i64 (baseN (i + 1)), .int .i64 (widthN (i + 1)), .int .i64 (precN (i + 1)), .int .i64 (expN (i + 1)), .int .i64 (leastN (i + 1)), .int .i64 (mostN (i + 1)), .int .i64 (payN (i + 1)), .bool (denseN (i + 1))][k]? := fun k hk => by
    rw [h.done _ (by omega), infoM_at i k hk, infoV_eq]
  exact ⟨e 0 (by decide), e 1 (by decide), e 2 (by decide), e 3 (by decide), e 4 (by decide), e 5 (by decide), e 6 (by decide), e 7 (by decide), e 8 (by decide), e 9 (by decide)⟩

/-- what Of tells of n lies in block g -/
structure Has10 (g : Nat) (n : Int) (w : World) : Prop where
  lt : g < w.heap.size
  c0 : w.cell? ⟨g, 0, none⟩ = some (.int .i64 (numN n))
  c1 : w.cell? ⟨g, 1, none⟩ = some (.string (nameN n))
  c2 : w.cell? ⟨g, 2, none⟩ = some (.int .i64 (baseN n))
  c3 : w.cell? ⟨g, 3, none⟩ = some (.int .i64 (widthN n))
  c4 : w.cell? ⟨g, 4, none⟩ = some (.int .i64 (precN n))
  c5 : w.cell? ⟨g, 5, none⟩ = some (.int .i64 (expN n))
  c6 : w.cell? ⟨g, 6, none⟩ = some (.int .i64 (leastN n))
  c7 : w.cell? ⟨g, 7, none⟩ = some (.int .i64 (mostN n))
  c8 : w.cell? ⟨g, 8, none⟩ = some (.int .i64 (payN n))
  c9 : w.cell? ⟨g, 9, none⟩ = some (.bool (denseN n))
theorem Has10.next {g : Nat} {n : Int} {w w' : World} (h : Has10 g n w) (hb : Below w.heap.size w w') : Has10 g n w' :=
  ⟨Nat.lt_of_lt_of_le h.lt hb.size, (hb.cell (p := ⟨g, 0, none⟩) h.lt).trans h.c0, (hb.cell (p := ⟨g, 1, none⟩) h.lt).trans h.c1, (hb.cell (p := ⟨g, 2, none⟩) h.lt).trans h.c2, (hb.cell (p := ⟨g, 3, none⟩) h.lt).trans h.c3, (hb.cell (p := ⟨g, 4, none⟩) h.lt).trans h.c4, (hb.cell (p := ⟨g, 5, none⟩) h.lt).trans h.c5, (hb.cell (p := ⟨g, 6, none⟩) h.lt).trans h.c6, (hb.cell (p := ⟨g, 7, none⟩) h.lt).trans h.c7, (hb.cell (p := ⟨g, 8, none⟩) h.lt).trans h.c8, (hb.cell (p := ⟨g, 9, none⟩) h.lt).trans h.c9⟩
theorem Has10.new {n : Int} {w w' : World} {t : TypeId} (hb : Below (w.alloc (.cells #[.int .i64 (numN n), .string (nameN n), .int .i64 (baseN n), .int .i64 (widthN n), .int .i64 (precN n), .int .i64 (expN n), .int .i64 (leastN n), .int .i64 (mostN n), .int .i64 (payN n), .bool (denseN n)] t)).heap.size (w.alloc (.cells #[.int .i64 (numN n), .string (nameN n), .int .i64 (baseN n), .int .i64 (widthN n), .int .i64 (precN n), .int .i64 (expN n), .int .i64 (leastN n), .int .i64 (mostN n), .int .i64 (payN n), .bool (denseN n)] t)) w') : Has10 w.heap.size n w' :=
  ⟨lt_allocI hb, cell_allocI hb, cell_allocI hb, cell_allocI hb, cell_allocI hb, cell_allocI hb, cell_allocI hb, cell_allocI hb, cell_allocI hb, cell_allocI hb, cell_allocI hb⟩

set_option maxHeartbeats 1000000 in
theorem descTells_any (n : Int) (w : World) (hT : Tab w) :
    Calls Tryd.prog 3 #[.int .i64 n] w fun e w' => e = .returned (.bool true) ∧ Below w.heap.size w w' := by
  go_enter Tryd.func3, Tryd.ntmps3
  go_wp2_with (go_at_call 9; refine (awake_any _ hT).mono ?_; rintro e wa ⟨rfl, hA⟩; have hTa := hT.go hA)
  go_wp2_with (go_at_call 10; refine (ofv_any _ _ hTa).mono ?_; rintro e wb ⟨rfl, hB⟩; replace hA := hA.trans (hB.mono hA.size); replace hA := hA.alloc hA.size (.cells #[.int .i64 (numN n), .string (nameN n), .int .i64 (baseN n), .int .i64 (widthN n), .int .i64 (precN n), .int .i64 (expN n), .int .i64 (leastN n), .int .i64 (mostN n), .int .i64 (payN n), .bool (denseN n)] 24))
  go_wp2_with (go_at_call 11; refine (rofv_any _ _).mono ?_; rintro e wc ⟨rfl, hC⟩; replace hA := hA.trans (hC.mono hA.size); have H3 := Has10.new hC; replace H3 := H3.next (below1' wc (.cells #[.int .i64 (numN n), .string (nameN n), .int .i64 (baseN n), .int .i64 (widthN n), .int .i64 (precN n), .int .i64 (expN n), .int .i64 (leastN n), .int .i64 (mostN n), .int .i64 (payN n), .bool (denseN n)] 28)); replace hA := hA.alloc hA.size (.cells #[.int .i64 (numN n), .string (nameN n), .int .i64 (baseN n), .int .i64 (widthN n), .int .i64 (precN n), .int .i64 (expN n), .int .i64 (leastN n), .int .i64 (mostN n), .int .i64 (payN n), .bool (denseN n)] 28); replace hTa := hT.go hA; clear hB hC)
  go_wp2_with (go_at_call 12; refine (all_any _ hTa).mono ?_; rintro e wd ⟨g, rfl, hP⟩; have hD := hP.below; replace H3 := H3.next hD; have H5 := Has10.new hD; replace hA := hA.trans (hD.mono hA.size); clear hTa; obtain ⟨l3, d0, d1, d2, d3, d4, d5, d6, d7, d8, d9⟩ := H3; obtain ⟨l5, f0, f1, f2, f3, f4, f5, f6, f7, f8, f9⟩ := H5)
  go_wp2_with (go_at_call 13; refine (isame_any _ _ _ _ _ _ _ _ _ _ _).mono ?_; rintro e we ⟨rfl, hE⟩; replace hA := hA.trans (hE.mono hA.size); replace hP := hP.next hE; clear d0 d1 d2 d3 d4 d5 d6 d7 d8 d9 f0 f1 f2 f3 f4 f5 f6 f7 f8 f9)
  have HP : Hid (Part _ g 120 we) := hP
  have HA : Hid (Below w.heap.size w we) := hA
  clear hP hA
  go_loopw [40] (fun t wr => ∃ i : Nat, i ≤ 12 ∧ t = .int .i64 i ∧ Hid (Part (wc.alloc (.cells #[.int .i64 (numN n), .string (nameN n), .int .i64 (baseN n), .int .i64 (widthN n), .int .i64 (precN n), .int .i64 (expN n), .int .i64 (leastN n), .int .i64 (mostN n), .int .i64 (payN n), .bool (denseN n)] 28)) g 120 wr) ∧ Hid (Below w.heap.size w wr)) (fun t _ => 12 - (intOf t).toNat)
  case atStart => exact ⟨0, by decide, rfl, HP, HA⟩
  case round =>
    obtain ⟨i, hi, rfl, hP, hA⟩ := hrel
    clear HP HA
    by_cases h : i < 12
    · have h1 : (i : Int) < 12 := by omega
      go_wp2_with (go_at_call 11; refine (rofv_any _ _).mono ?_; rintro e w1 ⟨rfl, hb⟩)
      have hP1 := hP.out.next hb
      have lg := hP1.lt
      obtain ⟨t0, t1, t2, t3, t4, t5, t6, t7, t8, t9⟩ := hP1.ten h
      have HP1 : Hid (Part _ g 120 w1) := hP1
      have HA1 : Hid (Below w.heap.size w w1) := hA.out.trans (hb.mono hA.out.size)
      clear hP1 hP hA hb
      go_region_with (go_at_call 13; refine (isame_any _ _ _ _ _ _ _ _ _ _ _).mono ?_; rintro e w2 ⟨rfl, hb2⟩)
      all_goals
        go_wp2
        have hb3 := (below1' w1 _).drew.trans (hb2.mono (below1' w1 _).drew.size)
        exact ⟨⟨i + 1, by omega, by simp, HP1.out.next hb3, HA1.out.trans (hb3.mono HA1.out.size)⟩, by simp [intOf]; omega⟩
    · obtain rfl : i = 12 := by omega
      go_wp2
      go_ret
      exact ⟨rfl, hA.out⟩
end Go.Proofs.YtcjbdmgaooojlaaDoor
