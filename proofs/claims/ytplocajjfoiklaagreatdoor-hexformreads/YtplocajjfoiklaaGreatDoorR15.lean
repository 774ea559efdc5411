/-
  Texts that the proof leans on, joined: Gi.
-/
import Derived.Test.YtplocajjfoiklaaGreatDoorR14
import Derived.RegionTactic
import Derived.ChangeAlike
import Derived.BigRegion
import Derived.Laws.Strings2
import Derived.Test.YtplocajjfoiklaaGreatDoorR1
set_option maxHeartbeats 8000000
set_option linter.unusedVariables false
set_option linter.unusedSimpArgs false
set_option linter.unusedSectionVars false
set_option maxRecDepth 20000
namespace Go.Proofs.YtplocajjfoiklaaGreatDoor
open Go.RowKit
theorem B_first (c : UInt8) (r : List UInt8) (h : 0 < (B (c :: r)).size) : (((B (c :: r))[0]'h).toNat : Int) = (c.toNat : Int) := by
 rw [by_lt (l := c :: r) h, by_zero]
theorem by_app_at (a b : List UInt8) (i : Nat) : by_ (a ++ b) (a.length + i) = by_ b i := by
 induction a with
 | nil => simp
 | cons c r ih => rw [List.cons_append, List.length_cons, show r.length + 1 + i = (r.length + i) + 1 by omega, by_succ, ih]
theorem B_last (c q : UInt8) (m : List UInt8) (h : m.length + 1 < (B (c :: (m ++ [q]))).size) : (((B (c :: (m ++ [q])))[m.length + 1]'h).toNat : Int) = (q.toNat : Int) := by
 rw [by_lt (l := c :: (m ++ [q])) h, by_succ]
 have := by_app_at m [q] 0
 rw [Nat.add_zero] at this
 rw [this, by_zero]
theorem B_mid (c q : UInt8) (m : List UInt8) : (B (c :: (m ++ [q]))).extract 1 (m.length + 1) = B m := by
 rw [B_ext]
 congr 1
 simp
theorem mid_run (m : List UInt8) (W : World) : (Instr.slice 9 (Value.string (B (40 :: (m ++ [41])))) (some (.int .i64 1)) (some (.int .i64 ((m.length : Int) + 2 - 1))) none).run Tryz.prog W = .ok (.string (B m)) W := by
 have hsz : (B (40 :: (m ++ [41]))).size = m.length + 2 := by rw [B_size]; simp
 rw [run_slice_string W 9 _ _ _ _ _ Tryz.underlying9 (by omega) (by omega) (by rw [hsz]; omega)]
 rw [show (1 : Int).toNat = 1 from rfl, show ((m.length : Int) + 2 - 1).toNat = m.length + 1 by omega, B_mid]
theorem B_tk (l : List UInt8) (k : Nat) : (B l).extract 0 k = B (l.take k) := by rw [B_ext, List.drop_zero]
theorem B_size3 (N : List UInt8) : (B (110 :: 97 :: 110 :: N)).size = N.length + 3 := rfl
theorem B_nan (N : List UInt8) : (B (110 :: 97 :: 110 :: N)).extract 0 3 = B [110, 97, 110] := by rw [B_ext]; rfl
theorem B_nan3 (N : List UInt8) : (B (110 :: 97 :: 110 :: N)).extract 3 (N.length + 3) = B N := by
 rw [B_ext]; congr 1; simp
theorem rword_sr1 (s : List UInt8) (T : List UInt8) (hT : T.length < 3) (w : World) (hi1 : (115 :: T) ≠ [105, 110, 102]) (hi2 : (115 :: T) ≠ [105, 110, 102, 105, 110, 105, 116, 121])
  (c33 : ∀ w, Calls Tryz.prog 39 #[.string (B s)] w fun e w' => e = .returned (.string (B (115 :: T))) ∧ Below w.heap.size w w') :
  Calls Tryz.prog 92 #[.string (B s)] w fun e w' => e = .returned (.tuple #[.agg #[.int .i64 0, .bool false, .bool false, .string ⟨#[]⟩, .int .i64 0], .bool false]) ∧ Below w.heap.size w w' := by
 have htl := B_toList
 have e1 : ((115 :: T) == [105, 110, 102]) = false := beq_eq_false_iff_ne.2 hi1
 have e2 : ((115 :: T) == [105, 110, 102, 105, 110, 105, 116, 121]) = false := beq_eq_false_iff_ne.2 hi2
 have hszT := B_size T
 have hTi : (T.length : Int) < 3 := by omega
 have hsz : (B (115 :: T)).size = T.length + 1 := rfl
 have hbt : (B (115 :: T)).extract 1 (T.length + 1) = B (T) := by rw [← hsz]; exact B_tail 115 _
 have hsb := B_first 115 (T) (by omega)
 have hsm := gcell_set_map
 go_enter Tryz.func92, Tryz.ntmps92
 go_wp2_with (first | (go_at_call 39; refine (c33 _).mono ?_; rintro x w1 ⟨rfl, hb1⟩; obtain ⟨hc1, hf1, hz1_0, hl1_0, hA1, hs1⟩ := wz w hb1 w.heap.size; clear hb1))
 have hz2 : w.heap.size < w1.heap.size + 1 := by omega
 go_region
 go_wp2
 exact bodyPost_ret (v := .tuple #[.agg #[.int .i64 0, .bool false, .bool false, .string ⟨#[]⟩, .int .i64 0], .bool false]) (by simp only [results, Tryz.results92]; go_simp) rfl ⟨rfl, bgo⟩
theorem rword_sr2 (s : List UInt8) (T : List UInt8) (hT : 3 ≤ T.length) (hTl : T.length < 10001) (hn : T.take 3 ≠ [110, 97, 110]) (w : World) (hi1 : (115 :: T) ≠ [105, 110, 102]) (hi2 : (115 :: T) ≠ [105, 110, 102, 105, 110, 105, 116, 121])
  (c33 : ∀ w, Calls Tryz.prog 39 #[.string (B s)] w fun e w' => e = .returned (.string (B (115 :: T))) ∧ Below w.heap.size w w') :
  Calls Tryz.prog 92 #[.string (B s)] w fun e w' => e = .returned (.tuple #[.agg #[.int .i64 0, .bool false, .bool false, .string ⟨#[]⟩, .int .i64 0], .bool false]) ∧ Below w.heap.size w w' := by
 have htl := B_toList
 have e1 : ((115 :: T) == [105, 110, 102]) = false := beq_eq_false_iff_ne.2 hi1
 have e2 : ((115 :: T) == [105, 110, 102, 105, 110, 105, 116, 121]) = false := beq_eq_false_iff_ne.2 hi2
 have hszT := B_size T
 have hTi : (3 : Int) ≤ T.length := by omega
 have hx3 := B_tk T 3
 have hn2 : (T.take 3 == [110, 97, 110]) = false := beq_eq_false_iff_ne.2 hn
 have hsz : (B (115 :: T)).size = T.length + 1 := rfl
 have hbt : (B (115 :: T)).extract 1 (T.length + 1) = B (T) := by rw [← hsz]; exact B_tail 115 _
 have hsb := B_first 115 (T) (by omega)
 have hsm := gcell_set_map
 go_enter Tryz.func92, Tryz.ntmps92
 go_wp2_with (first | (go_at_call 39; refine (c33 _).mono ?_; rintro x w1 ⟨rfl, hb1⟩; obtain ⟨hc1, hf1, hz1_0, hl1_0, hA1, hs1⟩ := wz w hb1 w.heap.size; clear hb1))
 have hz2 : w.heap.size < w1.heap.size + 1 := by omega
 go_region
 go_wp2
 exact bodyPost_ret (v := .tuple #[.agg #[.int .i64 0, .bool false, .bool false, .string ⟨#[]⟩, .int .i64 0], .bool false]) (by simp only [results, Tryz.results92]; go_simp) rfl ⟨rfl, bgo⟩
theorem rword_sr3 (s : List UInt8)  (w : World) (hi1 : (115 :: 110 :: 97 :: 110 :: []) ≠ [105, 110, 102]) (hi2 : (115 :: 110 :: 97 :: 110 :: []) ≠ [105, 110, 102, 105, 110, 105, 116, 121])
  (c33 : ∀ w, Calls Tryz.prog 39 #[.string (B s)] w fun e w' => e = .returned (.string (B (115 :: 110 :: 97 :: 110 :: []))) ∧ Below w.heap.size w w') :
  Calls Tryz.prog 92 #[.string (B s)] w fun e w' => e = .returned (.tuple #[.agg #[.int .i64 3, .bool false, .bool true, .string ⟨#[]⟩, .int .i64 0], .bool true]) ∧ Below w.heap.size w w' := by
 have htl := B_toList
 have e1 : ((115 :: 110 :: 97 :: 110 :: []) == [105, 110, 102]) = false := beq_eq_false_iff_ne.2 hi1
 have e2 : ((115 :: 110 :: 97 :: 110 :: []) == [105, 110, 102, 105, 110, 105, 116, 121]) = false := beq_eq_false_iff_ne.2 hi2
 have hszT : (B (110 :: 97 :: 110 :: [])).size = 3 := rfl
 have hx3 := B_nan []
 have hx4 : (B (110 :: 97 :: 110 :: [])).extract 3 3 = B [] := rfl
 have hszN : (B []).size = 0 := rfl
 have hsz : (B (115 :: 110 :: 97 :: 110 :: [])).size = 3 + 1 := by rw [B_size] at hszT ⊢; rw [List.length_cons, hszT]
 have hbt : (B (115 :: 110 :: 97 :: 110 :: [])).extract 1 (3 + 1) = B (110 :: 97 :: 110 :: []) := by rw [← hsz]; exact B_tail 115 _
 have hsb := B_first 115 (110 :: 97 :: 110 :: []) (by omega)
 have hsm := gcell_set_map
 go_enter Tryz.func92, Tryz.ntmps92
 go_wp2_with (first | (go_at_call 39; refine (c33 _).mono ?_; rintro x w1 ⟨rfl, hb1⟩; obtain ⟨hc1, hf1, hz1_0, hl1_0, hA1, hs1⟩ := wz w hb1 w.heap.size; clear hb1))
 have hz2 : w.heap.size < w1.heap.size + 1 := by omega
 go_region
 go_wp2
 exact bodyPost_ret (v := .tuple #[.agg #[.int .i64 3, .bool false, .bool true, .string ⟨#[]⟩, .int .i64 0], .bool true]) (by simp only [results, Tryz.results92]; go_simp) rfl ⟨rfl, bgo⟩
theorem rword_sr4 (s : List UInt8) (c : UInt8) (r : List UInt8) (hN : r.length < 2) (w : World) (hi1 : (115 :: 110 :: 97 :: 110 :: c :: r) ≠ [105, 110, 102]) (hi2 : (115 :: 110 :: 97 :: 110 :: c :: r) ≠ [105, 110, 102, 105, 110, 105, 116, 121])
  (c33 : ∀ w, Calls Tryz.prog 39 #[.string (B s)] w fun e w' => e = .returned (.string (B (115 :: 110 :: 97 :: 110 :: c :: r))) ∧ Below w.heap.size w w') :
  Calls Tryz.prog 92 #[.string (B s)] w fun e w' => e = .returned (.tuple #[.agg #[.int .i64 0, .bool false, .bool false, .string ⟨#[]⟩, .int .i64 0], .bool false]) ∧ Below w.heap.size w w' := by
 have htl := B_toList
 have e1 : ((115 :: 110 :: 97 :: 110 :: c :: r) == [105, 110, 102]) = false := beq_eq_false_iff_ne.2 hi1
 have e2 : ((115 :: 110 :: 97 :: 110 :: c :: r) == [105, 110, 102, 105, 110, 105, 116, 121]) = false := beq_eq_false_iff_ne.2 hi2
 have hszT := B_size3 (c :: r)
 have hx3 := B_nan (c :: r)
 have hx4 := B_nan3 (c :: r)
 have hszN : (B (c :: r)).size = r.length + 1 := rfl
 rw [List.length_cons] at hszT hx4
 have hNi : (r.length : Int) + 1 < 3 := by omega
 have hsz : (B (115 :: 110 :: 97 :: 110 :: c :: r)).size = (r.length + 1 + 3) + 1 := by rw [B_size] at hszT ⊢; rw [List.length_cons, hszT]
 have hbt : (B (115 :: 110 :: 97 :: 110 :: c :: r)).extract 1 ((r.length + 1 + 3) + 1) = B (110 :: 97 :: 110 :: c :: r) := by rw [← hsz]; exact B_tail 115 _
 have hsb := B_first 115 (110 :: 97 :: 110 :: c :: r) (by omega)
 have hsm := gcell_set_map
 go_enter Tryz.func92, Tryz.ntmps92
 go_wp2_with (first | (go_at_call 39; refine (c33 _).mono ?_; rintro x w1 ⟨rfl, hb1⟩; obtain ⟨hc1, hf1, hz1_0, hl1_0, hA1, hs1⟩ := wz w hb1 w.heap.size; clear hb1))
 have hz2 : w.heap.size < w1.heap.size + 1 := by omega
 go_region
 go_wp2
 exact bodyPost_ret (v := .tuple #[.agg #[.int .i64 0, .bool false, .bool false, .string ⟨#[]⟩, .int .i64 0], .bool false]) (by simp only [results, Tryz.results92]; go_simp) rfl ⟨rfl, bgo⟩
theorem rword_sr5 (s : List UInt8) (c q : UInt8) (m : List UInt8) (hm : 1 ≤ m.length) (hml : m.length < 10001) (hc : (c.toNat : Int) ≠ 40) (w : World) (hi1 : (115 :: 110 :: 97 :: 110 :: c :: (m ++ [q])) ≠ [105, 110, 102]) (hi2 : (115 :: 110 :: 97 :: 110 :: c :: (m ++ [q])) ≠ [105, 110, 102, 105, 110, 105, 116, 121])
  (c33 : ∀ w, Calls Tryz.prog 39 #[.string (B s)] w fun e w' => e = .returned (.string (B (115 :: 110 :: 97 :: 110 :: c :: (m ++ [q])))) ∧ Below w.heap.size w w') :
  Calls Tryz.prog 92 #[.string (B s)] w fun e w' => e = .returned (.tuple #[.agg #[.int .i64 0, .bool false, .bool false, .string ⟨#[]⟩, .int .i64 0], .bool false]) ∧ Below w.heap.size w w' := by
 have htl := B_toList
 have e1 : ((115 :: 110 :: 97 :: 110 :: c :: (m ++ [q])) == [105, 110, 102]) = false := beq_eq_false_iff_ne.2 hi1
 have e2 : ((115 :: 110 :: 97 :: 110 :: c :: (m ++ [q])) == [105, 110, 102, 105, 110, 105, 116, 121]) = false := beq_eq_false_iff_ne.2 hi2
 have hszT : (B (110 :: 97 :: 110 :: c :: (m ++ [q]))).size = m.length + 2 + 3 := by rw [B_size3]; simp
 have hx3 := B_nan (c :: (m ++ [q]))
 have hx4 : (B (110 :: 97 :: 110 :: c :: (m ++ [q]))).extract 3 (m.length + 2 + 3) = B (c :: (m ++ [q])) := by
  have := B_nan3 (c :: (m ++ [q]))
  rw [show (c :: (m ++ [q])).length = m.length + 2 by simp] at this
  exact this
 have hszN : (B (c :: (m ++ [q]))).size = m.length + 2 := by rw [B_size]; simp
 have hfs := B_first c (m ++ [q]) (by omega)
 have hmi : (1 : Int) ≤ m.length := by omega
 have hcb : ((c.toNat : Int) != 40) = true := by simpa using hc
 have hsz : (B (115 :: 110 :: 97 :: 110 :: c :: (m ++ [q]))).size = (m.length + 2 + 3) + 1 := by rw [B_size] at hszT ⊢; rw [List.length_cons, hszT]
 have hbt : (B (115 :: 110 :: 97 :: 110 :: c :: (m ++ [q]))).extract 1 ((m.length + 2 + 3) + 1) = B (110 :: 97 :: 110 :: c :: (m ++ [q])) := by rw [← hsz]; exact B_tail 115 _
 have hsb := B_first 115 (110 :: 97 :: 110 :: c :: (m ++ [q])) (by omega)
 have hsm := gcell_set_map
 go_enter Tryz.func92, Tryz.ntmps92
 go_wp2_with (first | (go_at_call 39; refine (c33 _).mono ?_; rintro x w1 ⟨rfl, hb1⟩; obtain ⟨hc1, hf1, hz1_0, hl1_0, hA1, hs1⟩ := wz w hb1 w.heap.size; clear hb1))
 have hz2 : w.heap.size < w1.heap.size + 1 := by omega
 go_region
 go_wp2
 exact bodyPost_ret (v := .tuple #[.agg #[.int .i64 0, .bool false, .bool false, .string ⟨#[]⟩, .int .i64 0], .bool false]) (by simp only [results, Tryz.results92]; go_simp) rfl ⟨rfl, bgo⟩
theorem rword_sr6 (s : List UInt8) (q : UInt8) (m : List UInt8) (hm : 1 ≤ m.length) (hml : m.length < 10001) (hq : (q.toNat : Int) ≠ 41) (w : World) (hi1 : (115 :: 110 :: 97 :: 110 :: 40 :: (m ++ [q])) ≠ [105, 110, 102]) (hi2 : (115 :: 110 :: 97 :: 110 :: 40 :: (m ++ [q])) ≠ [105, 110, 102, 105, 110, 105, 116, 121])
  (c33 : ∀ w, Calls Tryz.prog 39 #[.string (B s)] w fun e w' => e = .returned (.string (B (115 :: 110 :: 97 :: 110 :: 40 :: (m ++ [q])))) ∧ Below w.heap.size w w') :
  Calls Tryz.prog 92 #[.string (B s)] w fun e w' => e = .returned (.tuple #[.agg #[.int .i64 0, .bool false, .bool false, .string ⟨#[]⟩, .int .i64 0], .bool false]) ∧ Below w.heap.size w w' := by
 have htl := B_toList
 have e1 : ((115 :: 110 :: 97 :: 110 :: 40 :: (m ++ [q])) == [105, 110, 102]) = false := beq_eq_false_iff_ne.2 hi1
 have e2 : ((115 :: 110 :: 97 :: 110 :: 40 :: (m ++ [q])) == [105, 110, 102, 105, 110, 105, 116, 121]) = false := beq_eq_false_iff_ne.2 hi2
 have hszT : (B (110 :: 97 :: 110 :: 40 :: (m ++ [q]))).size = m.length + 2 + 3 := by rw [B_size3]; simp
 have hx3 := B_nan (40 :: (m ++ [q]))
 have hx4 : (B (110 :: 97 :: 110 :: 40 :: (m ++ [q]))).extract 3 (m.length + 2 + 3) = B (40 :: (m ++ [q])) := by
  have := B_nan3 (40 :: (m ++ [q]))
  rw [show (40 :: (m ++ [q])).length = m.length + 2 by simp] at this
  exact this
 have hszN : (B (40 :: (m ++ [q]))).size = m.length + 2 := by rw [B_size]; simp
 have hfs := B_first 40 (m ++ [q]) (by omega)
 have hls := B_last 40 q m (by omega)
 have hmi : (1 : Int) ≤ m.length := by omega
 have hqb : ((q.toNat : Int) != 41) = true := by simpa using hq
 have hsz : (B (115 :: 110 :: 97 :: 110 :: 40 :: (m ++ [q]))).size = (m.length + 2 + 3) + 1 := by rw [B_size] at hszT ⊢; rw [List.length_cons, hszT]
 have hbt : (B (115 :: 110 :: 97 :: 110 :: 40 :: (m ++ [q]))).extract 1 ((m.length + 2 + 3) + 1) = B (110 :: 97 :: 110 :: 40 :: (m ++ [q])) := by rw [← hsz]; exact B_tail 115 _
 have hsb := B_first 115 (110 :: 97 :: 110 :: 40 :: (m ++ [q])) (by omega)
 have hsm := gcell_set_map
 go_enter Tryz.func92, Tryz.ntmps92
 go_wp2_with (first | (go_at_call 39; refine (c33 _).mono ?_; rintro x w1 ⟨rfl, hb1⟩; obtain ⟨hc1, hf1, hz1_0, hl1_0, hA1, hs1⟩ := wz w hb1 w.heap.size; clear hb1))
 have hz2 : w.heap.size < w1.heap.size + 1 := by omega
 go_region
 go_wp2
 exact bodyPost_ret (v := .tuple #[.agg #[.int .i64 0, .bool false, .bool false, .string ⟨#[]⟩, .int .i64 0], .bool false]) (by simp only [results, Tryz.results92]; go_simp) rfl ⟨rfl, bgo⟩
theorem rword_sr7 (s : List UInt8) (m : List UInt8) (hm : 1 ≤ m.length) (hml : m.length < 10001) (hd : isd m = false) (w : World) (hi1 : (115 :: 110 :: 97 :: 110 :: 40 :: (m ++ [41])) ≠ [105, 110, 102]) (hi2 : (115 :: 110 :: 97 :: 110 :: 40 :: (m ++ [41])) ≠ [105, 110, 102, 105, 110, 105, 116, 121])
  (c33 : ∀ w, Calls Tryz.prog 39 #[.string (B s)] w fun e w' => e = .returned (.string (B (115 :: 110 :: 97 :: 110 :: 40 :: (m ++ [41])))) ∧ Below w.heap.size w w') :
  Calls Tryz.prog 92 #[.string (B s)] w fun e w' => e = .returned (.tuple #[.agg #[.int .i64 0, .bool false, .bool false, .string ⟨#[]⟩, .int .i64 0], .bool false]) ∧ Below w.heap.size w w' := by
 have htl := B_toList
 have e1 : ((115 :: 110 :: 97 :: 110 :: 40 :: (m ++ [41])) == [105, 110, 102]) = false := beq_eq_false_iff_ne.2 hi1
 have e2 : ((115 :: 110 :: 97 :: 110 :: 40 :: (m ++ [41])) == [105, 110, 102, 105, 110, 105, 116, 121]) = false := beq_eq_false_iff_ne.2 hi2
 have hszT : (B (110 :: 97 :: 110 :: 40 :: (m ++ [41]))).size = m.length + 2 + 3 := by rw [B_size3]; simp
 have hx3 := B_nan (40 :: (m ++ [41]))
 have hx4 : (B (110 :: 97 :: 110 :: 40 :: (m ++ [41]))).extract 3 (m.length + 2 + 3) = B (40 :: (m ++ [41])) := by
  have := B_nan3 (40 :: (m ++ [41]))
  rw [show (40 :: (m ++ [41])).length = m.length + 2 by simp] at this
  exact this
 have hszN : (B (40 :: (m ++ [41]))).size = m.length + 2 := by rw [B_size]; simp
 have hfs := B_first 40 (m ++ [41]) (by omega)
 have hls := B_last 40 41 m (by omega)
 have hmr := mid_run m
 have hmi : (1 : Int) ≤ m.length := by omega
 have c34 := fun w => isd_any m w (by omega)
 rw [hd] at c34
 have hsz : (B (115 :: 110 :: 97 :: 110 :: 40 :: (m ++ [41]))).size = (m.length + 2 + 3) + 1 := by rw [B_size] at hszT ⊢; rw [List.length_cons, hszT]
 have hbt : (B (115 :: 110 :: 97 :: 110 :: 40 :: (m ++ [41]))).extract 1 ((m.length + 2 + 3) + 1) = B (110 :: 97 :: 110 :: 40 :: (m ++ [41])) := by rw [← hsz]; exact B_tail 115 _
 have hsb := B_first 115 (110 :: 97 :: 110 :: 40 :: (m ++ [41])) (by omega)
 have hsm := gcell_set_map
 go_enter Tryz.func92, Tryz.ntmps92
 go_wp2_with (first | (go_at_call 39; refine (c33 _).mono ?_; rintro x w1 ⟨rfl, hb1⟩; obtain ⟨hc1, hf1, hz1_0, hl1_0, hA1, hs1⟩ := wz w hb1 w.heap.size; clear hb1))
 have hz2 : w.heap.size < w1.heap.size + 1 := by omega
 go_region
 go_wp2_with (first | (go_at_call 101; refine (c34 _).mono ?_; rintro x w2 ⟨rfl, hb2⟩; obtain ⟨hc2, hf2, hz2_0, hl2_0, hA2, hs2⟩ := wz w hb2 w.heap.size; obtain ⟨hz2_1, hl2_1⟩ := zf hb2 w1.heap.size; clear hb2))
 exact bodyPost_ret (v := .tuple #[.agg #[.int .i64 0, .bool false, .bool false, .string ⟨#[]⟩, .int .i64 0], .bool false]) (by simp only [results, Tryz.results92]; go_simp) rfl ⟨rfl, bgo⟩
theorem rword_sr8 (s : List UInt8) (m : List UInt8) (hm : 1 ≤ m.length) (hml : m.length < 10001) (hd : isd m = true) (w : World) (hi1 : (115 :: 110 :: 97 :: 110 :: 40 :: (m ++ [41])) ≠ [105, 110, 102]) (hi2 : (115 :: 110 :: 97 :: 110 :: 40 :: (m ++ [41])) ≠ [105, 110, 102, 105, 110, 105, 116, 121])
  (c33 : ∀ w, Calls Tryz.prog 39 #[.string (B s)] w fun e w' => e = .returned (.string (B (115 :: 110 :: 97 :: 110 :: 40 :: (m ++ [41])))) ∧ Below w.heap.size w w') :
  Calls Tryz.prog 92 #[.string (B s)] w fun e w' => e = .returned (.tuple #[.agg #[.int .i64 3, .bool false, .bool true, .string (B (bar m)), .int .i64 0], .bool true]) ∧ Below w.heap.size w w' := by
 have htl := B_toList
 have e1 : ((115 :: 110 :: 97 :: 110 :: 40 :: (m ++ [41])) == [105, 110, 102]) = false := beq_eq_false_iff_ne.2 hi1
 have e2 : ((115 :: 110 :: 97 :: 110 :: 40 :: (m ++ [41])) == [105, 110, 102, 105, 110, 105, 116, 121]) = false := beq_eq_false_iff_ne.2 hi2
 have hszT : (B (110 :: 97 :: 110 :: 40 :: (m ++ [41]))).size = m.length + 2 + 3 := by rw [B_size3]; simp
 have hx3 := B_nan (40 :: (m ++ [41]))
 have hx4 : (B (110 :: 97 :: 110 :: 40 :: (m ++ [41]))).extract 3 (m.length + 2 + 3) = B (40 :: (m ++ [41])) := by
  have := B_nan3 (40 :: (m ++ [41]))
  rw [show (40 :: (m ++ [41])).length = m.length + 2 by simp] at this
  exact this
 have hszN : (B (40 :: (m ++ [41]))).size = m.length + 2 := by rw [B_size]; simp
 have hfs := B_first 40 (m ++ [41]) (by omega)
 have hls := B_last 40 41 m (by omega)
 have hmr := mid_run m
 have hmi : (1 : Int) ≤ m.length := by omega
 have c34 := fun w => isd_any m w (by omega)
 rw [hd] at c34
 have c23 := fun w => gbare_any m w (by omega)
 have hsz : (B (115 :: 110 :: 97 :: 110 :: 40 :: (m ++ [41]))).size = (m.length + 2 + 3) + 1 := by rw [B_size] at hszT ⊢; rw [List.length_cons, hszT]
 have hbt : (B (115 :: 110 :: 97 :: 110 :: 40 :: (m ++ [41]))).extract 1 ((m.length + 2 + 3) + 1) = B (110 :: 97 :: 110 :: 40 :: (m ++ [41])) := by rw [← hsz]; exact B_tail 115 _
 have hsb := B_first 115 (110 :: 97 :: 110 :: 40 :: (m ++ [41])) (by omega)
 have hsm := gcell_set_map
 go_enter Tryz.func92, Tryz.ntmps92
 go_wp2_with (first | (go_at_call 39; refine (c33 _).mono ?_; rintro x w1 ⟨rfl, hb1⟩; obtain ⟨hc1, hf1, hz1_0, hl1_0, hA1, hs1⟩ := wz w hb1 w.heap.size; clear hb1))
 have hz2 : w.heap.size < w1.heap.size + 1 := by omega
 go_region
 go_wp2_with (first | (go_at_call 101; refine (c34 _).mono ?_; rintro x w2 ⟨rfl, hb2⟩; obtain ⟨hc2, hf2, hz2_0, hl2_0, hA2, hs2⟩ := wz w hb2 w.heap.size; obtain ⟨hz2_1, hl2_1⟩ := zf hb2 w1.heap.size; clear hb2) | (go_at_call 94; refine (c23 _).mono ?_; rintro x w3 ⟨rfl, hb3⟩; obtain ⟨hc3, hf3, hz3_0, hl3_0, hA3, hs3⟩ := wz w hb3 w.heap.size; obtain ⟨hz3_1, hl3_1⟩ := zf hb3 w1.heap.size; clear hb3))
 exact bodyPost_ret (v := .tuple #[.agg #[.int .i64 3, .bool false, .bool true, .string (B (bar m)), .int .i64 0], .bool true]) (by simp only [results, Tryz.results92]; go_simp) rfl ⟨rfl, bgo⟩
theorem rword_pr1 (s : List UInt8) (T : List UInt8) (hT : T.length < 3) (c0 : UInt8) (r0 : List UInt8) (hT0 : T = c0 :: r0) (hc0 : (c0.toNat : Int) ≠ 115) (w : World) (hi1 : (T) ≠ [105, 110, 102]) (hi2 : (T) ≠ [105, 110, 102, 105, 110, 105, 116, 121])
  (c33 : ∀ w, Calls Tryz.prog 39 #[.string (B s)] w fun e w' => e = .returned (.string (B (T))) ∧ Below w.heap.size w w') :
  Calls Tryz.prog 92 #[.string (B s)] w fun e w' => e = .returned (.tuple #[.agg #[.int .i64 0, .bool false, .bool false, .string ⟨#[]⟩, .int .i64 0], .bool false]) ∧ Below w.heap.size w w' := by
 have htl := B_toList
 have e1 : ((T) == [105, 110, 102]) = false := beq_eq_false_iff_ne.2 hi1
 have e2 : ((T) == [105, 110, 102, 105, 110, 105, 116, 121]) = false := beq_eq_false_iff_ne.2 hi2
 have hszT := B_size T
 have hTi : (T.length : Int) < 3 := by omega
 have hsb : ∀ h, (((B T)[0]'h).toNat : Int) = (c0.toNat : Int) := by subst hT0; exact fun h => B_first c0 r0 h
 have hpos : (0 : Int) < T.length := by rw [hT0, List.length_cons]; omega
 have hc0b : ((c0.toNat : Int) == 115) = false := beq_eq_false_iff_ne.2 hc0
 clear hT0
 have hsm := gcell_set_map
 go_enter Tryz.func92, Tryz.ntmps92
 go_wp2_with (first | (go_at_call 39; refine (c33 _).mono ?_; rintro x w1 ⟨rfl, hb1⟩; obtain ⟨hc1, hf1, hz1_0, hl1_0, hA1, hs1⟩ := wz w hb1 w.heap.size; clear hb1))
 exact bodyPost_ret (v := .tuple #[.agg #[.int .i64 0, .bool false, .bool false, .string ⟨#[]⟩, .int .i64 0], .bool false]) (by simp only [results, Tryz.results92]; go_simp) rfl ⟨rfl, bgo⟩
theorem rword_pr2 (s : List UInt8) (T : List UInt8) (hT : 3 ≤ T.length) (hTl : T.length < 10001) (hn : T.take 3 ≠ [110, 97, 110]) (c0 : UInt8) (r0 : List UInt8) (hT0 : T = c0 :: r0) (hc0 : (c0.toNat : Int) ≠ 115) (w : World) (hi1 : (T) ≠ [105, 110, 102]) (hi2 : (T) ≠ [105, 110, 102, 105, 110, 105, 116, 121])
  (c33 : ∀ w, Calls Tryz.prog 39 #[.string (B s)] w fun e w' => e = .returned (.string (B (T))) ∧ Below w.heap.size w w') :
  Calls Tryz.prog 92 #[.string (B s)] w fun e w' => e = .returned (.tuple #[.agg #[.int .i64 0, .bool false, .bool false, .string ⟨#[]⟩, .int .i64 0], .bool false]) ∧ Below w.heap.size w w' := by
 have htl := B_toList
 have e1 : ((T) == [105, 110, 102]) = false := beq_eq_false_iff_ne.2 hi1
 have e2 : ((T) == [105, 110, 102, 105, 110, 105, 116, 121]) = false := beq_eq_false_iff_ne.2 hi2
 have hszT := B_size T
 have hTi : (3 : Int) ≤ T.length := by omega
 have hx3 := B_tk T 3
 have hn2 : (T.take 3 == [110, 97, 110]) = false := beq_eq_false_iff_ne.2 hn
 have hsb : ∀ h, (((B T)[0]'h).toNat : Int) = (c0.toNat : Int) := by subst hT0; exact fun h => B_first c0 r0 h
 have hpos : (0 : Int) < T.length := by rw [hT0, List.length_cons]; omega
 have hc0b : ((c0.toNat : Int) == 115) = false := beq_eq_false_iff_ne.2 hc0
 clear hT0
 have hsm := gcell_set_map
 go_enter Tryz.func92, Tryz.ntmps92
 go_wp2_with (first | (go_at_call 39; refine (c33 _).mono ?_; rintro x w1 ⟨rfl, hb1⟩; obtain ⟨hc1, hf1, hz1_0, hl1_0, hA1, hs1⟩ := wz w hb1 w.heap.size; clear hb1))
 exact bodyPost_ret (v := .tuple #[.agg #[.int .i64 0, .bool false, .bool false, .string ⟨#[]⟩, .int .i64 0], .bool false]) (by simp only [results, Tryz.results92]; go_simp) rfl ⟨rfl, bgo⟩
theorem rword_pr3 (s : List UInt8)  (w : World) (hi1 : (110 :: 97 :: 110 :: []) ≠ [105, 110, 102]) (hi2 : (110 :: 97 :: 110 :: []) ≠ [105, 110, 102, 105, 110, 105, 116, 121])
  (c33 : ∀ w, Calls Tryz.prog 39 #[.string (B s)] w fun e w' => e = .returned (.string (B (110 :: 97 :: 110 :: []))) ∧ Below w.heap.size w w') :
  Calls Tryz.prog 92 #[.string (B s)] w fun e w' => e = .returned (.tuple #[.agg #[.int .i64 3, .bool false, .bool false, .string ⟨#[]⟩, .int .i64 0], .bool true]) ∧ Below w.heap.size w w' := by
 have htl := B_toList
 have e1 : ((110 :: 97 :: 110 :: []) == [105, 110, 102]) = false := beq_eq_false_iff_ne.2 hi1
 have e2 : ((110 :: 97 :: 110 :: []) == [105, 110, 102, 105, 110, 105, 116, 121]) = false := beq_eq_false_iff_ne.2 hi2
 have hszT : (B (110 :: 97 :: 110 :: [])).size = 3 := rfl
 have hx3 := B_nan []
 have hx4 : (B (110 :: 97 :: 110 :: [])).extract 3 3 = B [] := rfl
 have hszN : (B []).size = 0 := rfl
 have hsb := B_first 110 _ (show 0 < (B (110 :: 97 :: 110 :: [])).size by omega)
 have hsm := gcell_set_map
 go_enter Tryz.func92, Tryz.ntmps92
 go_wp2_with (first | (go_at_call 39; refine (c33 _).mono ?_; rintro x w1 ⟨rfl, hb1⟩; obtain ⟨hc1, hf1, hz1_0, hl1_0, hA1, hs1⟩ := wz w hb1 w.heap.size; clear hb1))
 exact bodyPost_ret (v := .tuple #[.agg #[.int .i64 3, .bool false, .bool false, .string ⟨#[]⟩, .int .i64 0], .bool true]) (by simp only [results, Tryz.results92]; go_simp) rfl ⟨rfl, bgo⟩
theorem rword_pr4 (s : List UInt8) (c : UInt8) (r : List UInt8) (hN : r.length < 2) (w : World) (hi1 : (110 :: 97 :: 110 :: c :: r) ≠ [105, 110, 102]) (hi2 : (110 :: 97 :: 110 :: c :: r) ≠ [105, 110, 102, 105, 110, 105, 116, 121])
  (c33 : ∀ w, Calls Tryz.prog 39 #[.string (B s)] w fun e w' => e = .returned (.string (B (110 :: 97 :: 110 :: c :: r))) ∧ Below w.heap.size w w') :
  Calls Tryz.prog 92 #[.string (B s)] w fun e w' => e = .returned (.tuple #[.agg #[.int .i64 0, .bool false, .bool false, .string ⟨#[]⟩, .int .i64 0], .bool false]) ∧ Below w.heap.size w w' := by
 have htl := B_toList
 have e1 : ((110 :: 97 :: 110 :: c :: r) == [105, 110, 102]) = false := beq_eq_false_iff_ne.2 hi1
 have e2 : ((110 :: 97 :: 110 :: c :: r) == [105, 110, 102, 105, 110, 105, 116, 121]) = false := beq_eq_false_iff_ne.2 hi2
 have hszT := B_size3 (c :: r)
 have hx3 := B_nan (c :: r)
 have hx4 := B_nan3 (c :: r)
 have hszN : (B (c :: r)).size = r.length + 1 := rfl
 rw [List.length_cons] at hszT hx4
 have hNi : (r.length : Int) + 1 < 3 := by omega
 have hsb := B_first 110 _ (show 0 < (B (110 :: 97 :: 110 :: c :: r)).size by omega)
 have hsm := gcell_set_map
 go_enter Tryz.func92, Tryz.ntmps92
 go_wp2_with (first | (go_at_call 39; refine (c33 _).mono ?_; rintro x w1 ⟨rfl, hb1⟩; obtain ⟨hc1, hf1, hz1_0, hl1_0, hA1, hs1⟩ := wz w hb1 w.heap.size; clear hb1))
 exact bodyPost_ret (v := .tuple #[.agg #[.int .i64 0, .bool false, .bool false, .string ⟨#[]⟩, .int .i64 0], .bool false]) (by simp only [results, Tryz.results92]; go_simp) rfl ⟨rfl, bgo⟩
theorem rword_pr5 (s : List UInt8) (c q : UInt8) (m : List UInt8) (hm : 1 ≤ m.length) (hml : m.length < 10001) (hc : (c.toNat : Int) ≠ 40) (w : World) (hi1 : (110 :: 97 :: 110 :: c :: (m ++ [q])) ≠ [105, 110, 102]) (hi2 : (110 :: 97 :: 110 :: c :: (m ++ [q])) ≠ [105, 110, 102, 105, 110, 105, 116, 121])
  (c33 : ∀ w, Calls Tryz.prog 39 #[.string (B s)] w fun e w' => e = .returned (.string (B (110 :: 97 :: 110 :: c :: (m ++ [q])))) ∧ Below w.heap.size w w') :
  Calls Tryz.prog 92 #[.string (B s)] w fun e w' => e = .returned (.tuple #[.agg #[.int .i64 0, .bool false, .bool false, .string ⟨#[]⟩, .int .i64 0], .bool false]) ∧ Below w.heap.size w w' := by
 have htl := B_toList
 have e1 : ((110 :: 97 :: 110 :: c :: (m ++ [q])) == [105, 110, 102]) = false := beq_eq_false_iff_ne.2 hi1
 have e2 : ((110 :: 97 :: 110 :: c :: (m ++ [q])) == [105, 110, 102, 105, 110, 105, 116, 121]) = false := beq_eq_false_iff_ne.2 hi2
 have hszT : (B (110 :: 97 :: 110 :: c :: (m ++ [q]))).size = m.length + 2 + 3 := by rw [B_size3]; simp
 have hx3 := B_nan (c :: (m ++ [q]))
 have hx4 : (B (110 :: 97 :: 110 :: c :: (m ++ [q]))).extract 3 (m.length + 2 + 3) = B (c :: (m ++ [q])) := by
  have := B_nan3 (c :: (m ++ [q]))
  rw [show (c :: (m ++ [q])).length = m.length + 2 by simp] at this
  exact this
 have hszN : (B (c :: (m ++ [q]))).size = m.length + 2 := by rw [B_size]; simp
 have hfs := B_first c (m ++ [q]) (by omega)
 have hmi : (1 : Int) ≤ m.length := by omega
 have hcb : ((c.toNat : Int) != 40) = true := by simpa using hc
 have hsb := B_first 110 _ (show 0 < (B (110 :: 97 :: 110 :: c :: (m ++ [q]))).size by omega)
 have hsm := gcell_set_map
 go_enter Tryz.func92, Tryz.ntmps92
 go_wp2_with (first | (go_at_call 39; refine (c33 _).mono ?_; rintro x w1 ⟨rfl, hb1⟩; obtain ⟨hc1, hf1, hz1_0, hl1_0, hA1, hs1⟩ := wz w hb1 w.heap.size; clear hb1))
 exact bodyPost_ret (v := .tuple #[.agg #[.int .i64 0, .bool false, .bool false, .string ⟨#[]⟩, .int .i64 0], .bool false]) (by simp only [results, Tryz.results92]; go_simp) rfl ⟨rfl, bgo⟩
theorem rword_pr6 (s : List UInt8) (q : UInt8) (m : List UInt8) (hm : 1 ≤ m.length) (hml : m.length < 10001) (hq : (q.toNat : Int) ≠ 41) (w : World) (hi1 : (110 :: 97 :: 110 :: 40 :: (m ++ [q])) ≠ [105, 110, 102]) (hi2 : (110 :: 97 :: 110 :: 40 :: (m ++ [q])) ≠ [105, 110, 102, 105, 110, 105, 116, 121])
  (c33 : ∀ w, Calls Tryz.prog 39 #[.string (B s)] w fun e w' => e = .returned (.string (B (110 :: 97 :: 110 :: 40 :: (m ++ [q])))) ∧ Below w.heap.size w w') :
  Calls Tryz.prog 92 #[.string (B s)] w fun e w' => e = .returned (.tuple #[.agg #[.int .i64 0, .bool false, .bool false, .string ⟨#[]⟩, .int .i64 0], .bool false]) ∧ Below w.heap.size w w' := by
 have htl := B_toList
 have e1 : ((110 :: 97 :: 110 :: 40 :: (m ++ [q])) == [105, 110, 102]) = false := beq_eq_false_iff_ne.2 hi1
 have e2 : ((110 :: 97 :: 110 :: 40 :: (m ++ [q])) == [105, 110, 102, 105, 110, 105, 116, 121]) = false := beq_eq_false_iff_ne.2 hi2
 have hszT : (B (110 :: 97 :: 110 :: 40 :: (m ++ [q]))).size = m.length + 2 + 3 := by rw [B_size3]; simp
 have hx3 := B_nan (40 :: (m ++ [q]))
 have hx4 : (B (110 :: 97 :: 110 :: 40 :: (m ++ [q]))).extract 3 (m.length + 2 + 3) = B (40 :: (m ++ [q])) := by
  have := B_nan3 (40 :: (m ++ [q]))
  rw [show (40 :: (m ++ [q])).length = m.length + 2 by simp] at this
  exact this
 have hszN : (B (40 :: (m ++ [q]))).size = m.length + 2 := by rw [B_size]; simp
 have hfs := B_first 40 (m ++ [q]) (by omega)
 have hls := B_last 40 q m (by omega)
 have hmi : (1 : Int) ≤ m.length := by omega
 have hqb : ((q.toNat : Int) != 41) = true := by simpa using hq
 have hsb := B_first 110 _ (show 0 < (B (110 :: 97 :: 110 :: 40 :: (m ++ [q]))).size by omega)
 have hsm := gcell_set_map
 go_enter Tryz.func92, Tryz.ntmps92
 go_wp2_with (first | (go_at_call 39; refine (c33 _).mono ?_; rintro x w1 ⟨rfl, hb1⟩; obtain ⟨hc1, hf1, hz1_0, hl1_0, hA1, hs1⟩ := wz w hb1 w.heap.size; clear hb1))
 exact bodyPost_ret (v := .tuple #[.agg #[.int .i64 0, .bool false, .bool false, .string ⟨#[]⟩, .int .i64 0], .bool false]) (by simp only [results, Tryz.results92]; go_simp) rfl ⟨rfl, bgo⟩
theorem rword_pr7 (s : List UInt8) (m : List UInt8) (hm : 1 ≤ m.length) (hml : m.length < 10001) (hd : isd m = false) (w : World) (hi1 : (110 :: 97 :: 110 :: 40 :: (m ++ [41])) ≠ [105, 110, 102]) (hi2 : (110 :: 97 :: 110 :: 40 :: (m ++ [41])) ≠ [105, 110, 102, 105, 110, 105, 116, 121])
  (c33 : ∀ w, Calls Tryz.prog 39 #[.string (B s)] w fun e w' => e = .returned (.string (B (110 :: 97 :: 110 :: 40 :: (m ++ [41])))) ∧ Below w.heap.size w w') :
  Calls Tryz.prog 92 #[.string (B s)] w fun e w' => e = .returned (.tuple #[.agg #[.int .i64 0, .bool false, .bool false, .string ⟨#[]⟩, .int .i64 0], .bool false]) ∧ Below w.heap.size w w' := by
 have htl := B_toList
 have e1 : ((110 :: 97 :: 110 :: 40 :: (m ++ [41])) == [105, 110, 102]) = false := beq_eq_false_iff_ne.2 hi1
 have e2 : ((110 :: 97 :: 110 :: 40 :: (m ++ [41])) == [105, 110, 102, 105, 110, 105, 116, 121]) = false := beq_eq_false_iff_ne.2 hi2
 have hszT : (B (110 :: 97 :: 110 :: 40 :: (m ++ [41]))).size = m.length + 2 + 3 := by rw [B_size3]; simp
 have hx3 := B_nan (40 :: (m ++ [41]))
 have hx4 : (B (110 :: 97 :: 110 :: 40 :: (m ++ [41]))).extract 3 (m.length + 2 + 3) = B (40 :: (m ++ [41])) := by
  have := B_nan3 (40 :: (m ++ [41]))
  rw [show (40 :: (m ++ [41])).length = m.length + 2 by simp] at this
  exact this
 have hszN : (B (40 :: (m ++ [41]))).size = m.length + 2 := by rw [B_size]; simp
 have hfs := B_first 40 (m ++ [41]) (by omega)
 have hls := B_last 40 41 m (by omega)
 have hmr := mid_run m
 have hmi : (1 : Int) ≤ m.length := by omega
 have c34 := fun w => isd_any m w (by omega)
 rw [hd] at c34
 have hsb := B_first 110 _ (show 0 < (B (110 :: 97 :: 110 :: 40 :: (m ++ [41]))).size by omega)
 have hsm := gcell_set_map
 go_enter Tryz.func92, Tryz.ntmps92
 go_wp2_with (first | (go_at_call 39; refine (c33 _).mono ?_; rintro x w1 ⟨rfl, hb1⟩; obtain ⟨hc1, hf1, hz1_0, hl1_0, hA1, hs1⟩ := wz w hb1 w.heap.size; clear hb1) | (go_at_call 101; refine (c34 _).mono ?_; rintro x w2 ⟨rfl, hb2⟩; obtain ⟨hc2, hf2, hz2_0, hl2_0, hA2, hs2⟩ := wz w hb2 w.heap.size; obtain ⟨hz2_1, hl2_1⟩ := zf hb2 w1.heap.size; clear hb2))
 exact bodyPost_ret (v := .tuple #[.agg #[.int .i64 0, .bool false, .bool false, .string ⟨#[]⟩, .int .i64 0], .bool false]) (by simp only [results, Tryz.results92]; go_simp) rfl ⟨rfl, bgo⟩
theorem rword_pr8 (s : List UInt8) (m : List UInt8) (hm : 1 ≤ m.length) (hml : m.length < 10001) (hd : isd m = true) (w : World) (hi1 : (110 :: 97 :: 110 :: 40 :: (m ++ [41])) ≠ [105, 110, 102]) (hi2 : (110 :: 97 :: 110 :: 40 :: (m ++ [41])) ≠ [105, 110, 102, 105, 110, 105, 116, 121])
  (c33 : ∀ w, Calls Tryz.prog 39 #[.string (B s)] w fun e w' => e = .returned (.string (B (110 :: 97 :: 110 :: 40 :: (m ++ [41])))) ∧ Below w.heap.size w w') :
  Calls Tryz.prog 92 #[.string (B s)] w fun e w' => e = .returned (.tuple #[.agg #[.int .i64 3, .bool false, .bool false, .string (B (bar m)), .int .i64 0], .bool true]) ∧ Below w.heap.size w w' := by
 have htl := B_toList
 have e1 : ((110 :: 97 :: 110 :: 40 :: (m ++ [41])) == [105, 110, 102]) = false := beq_eq_false_iff_ne.2 hi1
 have e2 : ((110 :: 97 :: 110 :: 40 :: (m ++ [41])) == [105, 110, 102, 105, 110, 105, 116, 121]) = false := beq_eq_false_iff_ne.2 hi2
 have hszT : (B (110 :: 97 :: 110 :: 40 :: (m ++ [41]))).size = m.length + 2 + 3 := by rw [B_size3]; simp
 have hx3 := B_nan (40 :: (m ++ [41]))
 have hx4 : (B (110 :: 97 :: 110 :: 40 :: (m ++ [41]))).extract 3 (m.length + 2 + 3) = B (40 :: (m ++ [41])) := by
  have := B_nan3 (40 :: (m ++ [41]))
  rw [show (40 :: (m ++ [41])).length = m.length + 2 by simp] at this
  exact this
 have hszN : (B (40 :: (m ++ [41]))).size = m.length + 2 := by rw [B_size]; simp
 have hfs := B_first 40 (m ++ [41]) (by omega)
 have hls := B_last 40 41 m (by omega)
 have hmr := mid_run m
 have hmi : (1 : Int) ≤ m.length := by omega
 have c34 := fun w => isd_any m w (by omega)
 rw [hd] at c34
 have c23 := fun w => gbare_any m w (by omega)
 have hsb := B_first 110 _ (show 0 < (B (110 :: 97 :: 110 :: 40 :: (m ++ [41]))).size by omega)
 have hsm := gcell_set_map
 go_enter Tryz.func92, Tryz.ntmps92
 go_wp2_with (first | (go_at_call 39; refine (c33 _).mono ?_; rintro x w1 ⟨rfl, hb1⟩; obtain ⟨hc1, hf1, hz1_0, hl1_0, hA1, hs1⟩ := wz w hb1 w.heap.size; clear hb1) | (go_at_call 101; refine (c34 _).mono ?_; rintro x w2 ⟨rfl, hb2⟩; obtain ⟨hc2, hf2, hz2_0, hl2_0, hA2, hs2⟩ := wz w hb2 w.heap.size; obtain ⟨hz2_1, hl2_1⟩ := zf hb2 w1.heap.size; clear hb2) | (go_at_call 94; refine (c23 _).mono ?_; rintro x w3 ⟨rfl, hb3⟩; obtain ⟨hc3, hf3, hz3_0, hl3_0, hA3, hs3⟩ := wz w hb3 w.heap.size; obtain ⟨hz3_1, hl3_1⟩ := zf hb3 w1.heap.size; clear hb3))
 exact bodyPost_ret (v := .tuple #[.agg #[.int .i64 3, .bool false, .bool false, .string (B (bar m)), .int .i64 0], .bool true]) (by simp only [results, Tryz.results92]; go_simp) rfl ⟨rfl, bgo⟩
end Go.Proofs.YtplocajjfoiklaaGreatDoor
