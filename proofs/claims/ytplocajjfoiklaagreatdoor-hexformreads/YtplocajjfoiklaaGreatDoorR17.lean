/-
  Texts that the proof leans on, joined: Gk.
-/
import Derived.Test.YtplocajjfoiklaaGreatDoorR16
import Derived.Test.YtplocajjfoiklaaGreatDoorR1
set_option maxHeartbeats 8000000
set_option linter.unusedVariables false
set_option linter.unusedSimpArgs false
set_option linter.unusedSectionVars false
set_option maxRecDepth 20000
namespace Go.Proofs.YtplocajjfoiklaaGreatDoor
open Go.RowKit
theorem rcut_long (l : List UInt8) (w : World) (hs : l.length < 10001) (hl : 4000 < l.length) :
  Calls Tryz.prog 40 #[.string (B l)] w fun e w' => e = .returned (.tuple #[PV 0 false false [] 0, .int .i64 4]) ∧ Below w.heap.size w w' := by
 have hsz := B_size l
 have hi : (4000 : Int) < l.length := by omega
 unfold PV
 go_enter Tryz.func40, Tryz.ntmps40
 go_wp2
 exact bodyPost_ret (v := .tuple #[.agg #[.int .i64 0, .bool false, .bool false, .string ⟨#[]⟩, .int .i64 0], .int .i64 4]) (by simp only [results, Tryz.results40]; go_simp) rfl ⟨rfl, bgo⟩
theorem rcut_wo (l : List UInt8) (w : World) (hl : l.length ≤ 4000) (C : Int) (G : Bool) (D : List UInt8) (hv : woV (sgR l) = PV C false G D 0) (hb : woB (sgR l) = true) :
  Calls Tryz.prog 40 #[.string (B l)] w fun e w' => e = .returned (.tuple #[PV C (gsgB l) G D 0, .int .i64 0]) ∧ Below w.heap.size w w' := by
 have hsz := B_size l
 have hi : (l.length : Int) ≤ 4000 := by omega
 have hsl := sgR_le l
 have c19 := fun w => sign_any l w (by omega)
 have c20 := fun w => rword_any (sgR l) w (by omega)
 rw [hv, hb] at c20
 unfold PV at c20 ⊢
 clear hv hb
 generalize gsgB l = z at *
 generalize sgR l = R at *
 have hsm := gcell_set_map
 go_enter Tryz.func40, Tryz.ntmps40
 go_wp2_with (first | (go_at_call 38; refine (c19 _).mono ?_; rintro x w1 ⟨rfl, hb1⟩; obtain ⟨hc1, hf1, hz1_0, hl1_0, hA1, hs1⟩ := wz w hb1 w.heap.size; clear hb1) | (go_at_call 92; refine (c20 _).mono ?_; rintro x w2 ⟨rfl, hb2⟩; obtain ⟨hc2, hf2, hz2_0, hl2_0, hA2, hs2⟩ := wz w hb2 w.heap.size; clear hb2))
 exact bodyPost_ret (v := .tuple #[.agg #[.int .i64 C, .bool z, .bool G, .string (B D), .int .i64 0], .int .i64 0]) (by simp only [results, Tryz.results40]; go_simp) rfl ⟨rfl, bgo⟩
/-! finite numbers, way by way -/
theorem rcut_pk0x (l : List UInt8) (w : World) (hl : l.length ≤ 4000) (z : Bool) (R T : List UInt8) (x : UInt8) (xs : List UInt8) (hX : xs.length + 1 < 4001) (F : List UInt8) (hF : F.length < 4001) (hTl : T.length < 4001) (D : List UInt8)
  (c19 : ∀ w, Calls Tryz.prog 38 #[.string (B l)] w fun e w' => e = .returned (.tuple #[.bool z, .string (B R)]) ∧ Below w.heap.size w w')
  (c20 : ∀ w, Calls Tryz.prog 92 #[.string (B R)] w fun e w' => e = .returned (.tuple #[.agg #[.int .i64 0, .bool false, .bool false, .string ⟨#[]⟩, .int .i64 0], .bool false]) ∧ Below w.heap.size w w')
  (c21 : ∀ w, Calls Tryz.prog 93 #[.string (B R)] w fun e w' => e = .returned (.tuple #[.string (B (x :: xs)), .string (B (46 :: T))]) ∧ Below w.heap.size w w')
  (c21b : ∀ w, Calls Tryz.prog 93 #[.string (B T)] w fun e w' => e = .returned (.tuple #[.string (B F), .string (B [])]) ∧ Below w.heap.size w w')
  (c23 : ∀ w, Calls Tryz.prog 94 #[.string (B ((x :: xs) ++ F))] w fun e w' => e = .returned (.string (B D)) ∧ Below w.heap.size w w') :
  Calls Tryz.prog 40 #[.string (B l)] w fun e w' => e = .returned (.tuple #[.agg #[.int .i64 1, .bool z, .bool false, .string (B D), .int .i64 (min (max ((0 : Int) - (F.length : Int)) (-1000000000)) 1000000000)], .int .i64 0]) ∧ Below w.heap.size w w' := by
 have hsz := B_size l
 have hi : (l.length : Int) ≤ 4000 := by omega
 have htl := B_toList
 have hsm := gcell_set_map
 have hszQ : (B []).size = 0 := rfl
 have hszT : (B (46 :: T)).size = T.length + 1 := rfl
 have hfT := B_first 46 T (by omega)
 have htT : (B (46 :: T)).extract 1 (T.length + 1) = B T := B_tail 46 T
 have hap := B_app (x :: xs) F
 have hXs : (B (x :: xs)).size < 4001 := hX
 have hFs := B_size F
 have hF9 : (B F).size < 4001 := by rw [hFs]; exact hF
 go_enter Tryz.func40, Tryz.ntmps40
 go_wp2_with (first | (go_at_call 38; refine (c19 _).mono ?_; rintro x w1 ⟨rfl, hb1⟩; obtain ⟨hc1, hf1, hz1_0, hl1_0, hA1, hs1⟩ := wz w hb1 w.heap.size; clear hb1) | (go_at_call 92; refine (c20 _).mono ?_; rintro x w2 ⟨rfl, hb2⟩; obtain ⟨hc2, hf2, hz2_0, hl2_0, hA2, hs2⟩ := wz w hb2 w.heap.size; clear hb2) | (go_at_call 93; refine (c21 _).mono ?_; rintro x w3 ⟨rfl, hb3⟩; clear c21; obtain ⟨hc3, hf3, hz3_0, hl3_0, hA3, hs3⟩ := wz w hb3 w.heap.size; clear hb3))
 go_wp2_with (first | (go_at_call 93; refine (c21b _).mono ?_; rintro x w4 ⟨rfl, hb4⟩; obtain ⟨hc4, hf4, hz4_0, hl4_0, hA4, hs4⟩ := wz w hb4 w.heap.size; clear hb4) | (go_at_call 94; refine (c23 _).mono ?_; rintro x w6 ⟨rfl, hb6⟩; obtain ⟨hc6, hf6, hz6_0, hl6_0, hA6, hs6⟩ := wz w hb6 w.heap.size; clear hb6))
 exact bodyPost_ret (v := .tuple #[.agg #[.int .i64 1, .bool z, .bool false, .string (B D), .int .i64 (min (max ((0 : Int) - (F.length : Int)) (-1000000000)) 1000000000)], .int .i64 0]) (by simp only [results, Tryz.results40]; go_simp) rfl ⟨rfl, bgo⟩
theorem rcut_pk0f (l : List UInt8) (w : World) (hl : l.length ≤ 4000) (z : Bool) (R T : List UInt8) (f : UInt8) (fs : List UInt8) (hF : fs.length + 1 < 4001) (hTl : T.length < 4001) (D : List UInt8)
  (c19 : ∀ w, Calls Tryz.prog 38 #[.string (B l)] w fun e w' => e = .returned (.tuple #[.bool z, .string (B R)]) ∧ Below w.heap.size w w')
  (c20 : ∀ w, Calls Tryz.prog 92 #[.string (B R)] w fun e w' => e = .returned (.tuple #[.agg #[.int .i64 0, .bool false, .bool false, .string ⟨#[]⟩, .int .i64 0], .bool false]) ∧ Below w.heap.size w w')
  (c21 : ∀ w, Calls Tryz.prog 93 #[.string (B R)] w fun e w' => e = .returned (.tuple #[.string (B []), .string (B (46 :: T))]) ∧ Below w.heap.size w w')
  (c21b : ∀ w, Calls Tryz.prog 93 #[.string (B T)] w fun e w' => e = .returned (.tuple #[.string (B (f :: fs)), .string (B [])]) ∧ Below w.heap.size w w')
  (c23 : ∀ w, Calls Tryz.prog 94 #[.string (B ([] ++ (f :: fs)))] w fun e w' => e = .returned (.string (B D)) ∧ Below w.heap.size w w') :
  Calls Tryz.prog 40 #[.string (B l)] w fun e w' => e = .returned (.tuple #[.agg #[.int .i64 1, .bool z, .bool false, .string (B D), .int .i64 (min (max ((0 : Int) - ((fs.length : Int) + 1)) (-1000000000)) 1000000000)], .int .i64 0]) ∧ Below w.heap.size w w' := by
 have hsz := B_size l
 have hi : (l.length : Int) ≤ 4000 := by omega
 have htl := B_toList
 have hsm := gcell_set_map
 have hszQ : (B []).size = 0 := rfl
 have hszT : (B (46 :: T)).size = T.length + 1 := rfl
 have hfT := B_first 46 T (by omega)
 have htT : (B (46 :: T)).extract 1 (T.length + 1) = B T := B_tail 46 T
 have hap := B_app [] (f :: fs)
 have hXs : (B []).size = 0 := rfl
 have hFs : (B (f :: fs)).size = fs.length + 1 := rfl
 have hF9 : (B (f :: fs)).size < 4001 := hF
 go_enter Tryz.func40, Tryz.ntmps40
 go_wp2_with (first | (go_at_call 38; refine (c19 _).mono ?_; rintro x w1 ⟨rfl, hb1⟩; obtain ⟨hc1, hf1, hz1_0, hl1_0, hA1, hs1⟩ := wz w hb1 w.heap.size; clear hb1) | (go_at_call 92; refine (c20 _).mono ?_; rintro x w2 ⟨rfl, hb2⟩; obtain ⟨hc2, hf2, hz2_0, hl2_0, hA2, hs2⟩ := wz w hb2 w.heap.size; clear hb2) | (go_at_call 93; refine (c21 _).mono ?_; rintro x w3 ⟨rfl, hb3⟩; clear c21; obtain ⟨hc3, hf3, hz3_0, hl3_0, hA3, hs3⟩ := wz w hb3 w.heap.size; clear hb3))
 go_wp2_with (first | (go_at_call 93; refine (c21b _).mono ?_; rintro x w4 ⟨rfl, hb4⟩; obtain ⟨hc4, hf4, hz4_0, hl4_0, hA4, hs4⟩ := wz w hb4 w.heap.size; clear hb4) | (go_at_call 94; refine (c23 _).mono ?_; rintro x w6 ⟨rfl, hb6⟩; obtain ⟨hc6, hf6, hz6_0, hl6_0, hA6, hs6⟩ := wz w hb6 w.heap.size; clear hb6))
 exact bodyPost_ret (v := .tuple #[.agg #[.int .i64 1, .bool z, .bool false, .string (B D), .int .i64 (min (max ((0 : Int) - ((fs.length : Int) + 1)) (-1000000000)) 1000000000)], .int .i64 0]) (by simp only [results, Tryz.results40]; go_simp) rfl ⟨rfl, bgo⟩
theorem rcut_pk0z (l : List UInt8) (w : World) (hl : l.length ≤ 4000) (z : Bool) (R T : List UInt8) (hTl : T.length < 4001)
  (c19 : ∀ w, Calls Tryz.prog 38 #[.string (B l)] w fun e w' => e = .returned (.tuple #[.bool z, .string (B R)]) ∧ Below w.heap.size w w')
  (c20 : ∀ w, Calls Tryz.prog 92 #[.string (B R)] w fun e w' => e = .returned (.tuple #[.agg #[.int .i64 0, .bool false, .bool false, .string ⟨#[]⟩, .int .i64 0], .bool false]) ∧ Below w.heap.size w w')
  (c21 : ∀ w, Calls Tryz.prog 93 #[.string (B R)] w fun e w' => e = .returned (.tuple #[.string (B []), .string (B (46 :: T))]) ∧ Below w.heap.size w w')
  (c21b : ∀ w, Calls Tryz.prog 93 #[.string (B T)] w fun e w' => e = .returned (.tuple #[.string (B []), .string (B [])]) ∧ Below w.heap.size w w') :
  Calls Tryz.prog 40 #[.string (B l)] w fun e w' => e = .returned (.tuple #[.agg #[.int .i64 0, .bool false, .bool false, .string ⟨#[]⟩, .int .i64 0], .int .i64 2]) ∧ Below w.heap.size w w' := by
 have hsz := B_size l
 have hi : (l.length : Int) ≤ 4000 := by omega
 have htl := B_toList
 have hsm := gcell_set_map
 have hszQ : (B []).size = 0 := rfl
 have hszT : (B (46 :: T)).size = T.length + 1 := rfl
 have hfT := B_first 46 T (by omega)
 have htT : (B (46 :: T)).extract 1 (T.length + 1) = B T := B_tail 46 T
 go_enter Tryz.func40, Tryz.ntmps40
 go_wp2_with (first | (go_at_call 38; refine (c19 _).mono ?_; rintro x w1 ⟨rfl, hb1⟩; obtain ⟨hc1, hf1, hz1_0, hl1_0, hA1, hs1⟩ := wz w hb1 w.heap.size; clear hb1) | (go_at_call 92; refine (c20 _).mono ?_; rintro x w2 ⟨rfl, hb2⟩; obtain ⟨hc2, hf2, hz2_0, hl2_0, hA2, hs2⟩ := wz w hb2 w.heap.size; clear hb2) | (go_at_call 93; refine (c21 _).mono ?_; rintro x w3 ⟨rfl, hb3⟩; clear c21; obtain ⟨hc3, hf3, hz3_0, hl3_0, hA3, hs3⟩ := wz w hb3 w.heap.size; clear hb3))
 go_wp2_with (first | (go_at_call 93; refine (c21b _).mono ?_; rintro x w4 ⟨rfl, hb4⟩; obtain ⟨hc4, hf4, hz4_0, hl4_0, hA4, hs4⟩ := wz w hb4 w.heap.size; clear hb4))
 exact bodyPost_ret (v := .tuple #[.agg #[.int .i64 0, .bool false, .bool false, .string ⟨#[]⟩, .int .i64 0], .int .i64 2]) (by simp only [results, Tryz.results40]; go_simp) rfl ⟨rfl, bgo⟩
theorem rcut_pk1x (l : List UInt8) (w : World) (hl : l.length ≤ 4000) (z : Bool) (R T : List UInt8) (x : UInt8) (xs : List UInt8) (hX : xs.length + 1 < 4001) (F : List UInt8) (hF : F.length < 4001) (c : UInt8) (r : List UInt8) (hr : r.length < 4001) (hc1 : (c.toNat : Int) ≠ 101) (hc2 : (c.toNat : Int) ≠ 69) (hTl : T.length < 4001)
  (c19 : ∀ w, Calls Tryz.prog 38 #[.string (B l)] w fun e w' => e = .returned (.tuple #[.bool z, .string (B R)]) ∧ Below w.heap.size w w')
  (c20 : ∀ w, Calls Tryz.prog 92 #[.string (B R)] w fun e w' => e = .returned (.tuple #[.agg #[.int .i64 0, .bool false, .bool false, .string ⟨#[]⟩, .int .i64 0], .bool false]) ∧ Below w.heap.size w w')
  (c21 : ∀ w, Calls Tryz.prog 93 #[.string (B R)] w fun e w' => e = .returned (.tuple #[.string (B (x :: xs)), .string (B (46 :: T))]) ∧ Below w.heap.size w w')
  (c21b : ∀ w, Calls Tryz.prog 93 #[.string (B T)] w fun e w' => e = .returned (.tuple #[.string (B F), .string (B (c :: r))]) ∧ Below w.heap.size w w') :
  Calls Tryz.prog 40 #[.string (B l)] w fun e w' => e = .returned (.tuple #[.agg #[.int .i64 0, .bool false, .bool false, .string ⟨#[]⟩, .int .i64 0], .int .i64 2]) ∧ Below w.heap.size w w' := by
 have hsz := B_size l
 have hi : (l.length : Int) ≤ 4000 := by omega
 have htl := B_toList
 have hsm := gcell_set_map
 have hszQ : (B (c :: r)).size = r.length + 1 := rfl
 have hfs := B_first c r (by omega)
 have htq : (B (c :: r)).extract 1 (r.length + 1) = B r := B_tail c r
 have hcb := c.toNat_lt
 have g1 : ((c.toNat : Int) != 101) = true := by simpa using hc1
 have g2 : ((c.toNat : Int) != 69) = true := by simpa using hc2
 have hszT : (B (46 :: T)).size = T.length + 1 := rfl
 have hfT := B_first 46 T (by omega)
 have htT : (B (46 :: T)).extract 1 (T.length + 1) = B T := B_tail 46 T
 go_enter Tryz.func40, Tryz.ntmps40
 go_wp2_with (first | (go_at_call 38; refine (c19 _).mono ?_; rintro x w1 ⟨rfl, hb1⟩; obtain ⟨hc1, hf1, hz1_0, hl1_0, hA1, hs1⟩ := wz w hb1 w.heap.size; clear hb1) | (go_at_call 92; refine (c20 _).mono ?_; rintro x w2 ⟨rfl, hb2⟩; obtain ⟨hc2, hf2, hz2_0, hl2_0, hA2, hs2⟩ := wz w hb2 w.heap.size; clear hb2) | (go_at_call 93; refine (c21 _).mono ?_; rintro x w3 ⟨rfl, hb3⟩; clear c21; obtain ⟨hc3, hf3, hz3_0, hl3_0, hA3, hs3⟩ := wz w hb3 w.heap.size; clear hb3))
 go_wp2_with (first | (go_at_call 93; refine (c21b _).mono ?_; rintro x w4 ⟨rfl, hb4⟩; obtain ⟨hc4, hf4, hz4_0, hl4_0, hA4, hs4⟩ := wz w hb4 w.heap.size; clear hb4))
 exact bodyPost_ret (v := .tuple #[.agg #[.int .i64 0, .bool false, .bool false, .string ⟨#[]⟩, .int .i64 0], .int .i64 2]) (by simp only [results, Tryz.results40]; go_simp) rfl ⟨rfl, bgo⟩
theorem rcut_pk1f (l : List UInt8) (w : World) (hl : l.length ≤ 4000) (z : Bool) (R T : List UInt8) (f : UInt8) (fs : List UInt8) (hF : fs.length + 1 < 4001) (c : UInt8) (r : List UInt8) (hr : r.length < 4001) (hc1 : (c.toNat : Int) ≠ 101) (hc2 : (c.toNat : Int) ≠ 69) (hTl : T.length < 4001)
  (c19 : ∀ w, Calls Tryz.prog 38 #[.string (B l)] w fun e w' => e = .returned (.tuple #[.bool z, .string (B R)]) ∧ Below w.heap.size w w')
  (c20 : ∀ w, Calls Tryz.prog 92 #[.string (B R)] w fun e w' => e = .returned (.tuple #[.agg #[.int .i64 0, .bool false, .bool false, .string ⟨#[]⟩, .int .i64 0], .bool false]) ∧ Below w.heap.size w w')
  (c21 : ∀ w, Calls Tryz.prog 93 #[.string (B R)] w fun e w' => e = .returned (.tuple #[.string (B []), .string (B (46 :: T))]) ∧ Below w.heap.size w w')
  (c21b : ∀ w, Calls Tryz.prog 93 #[.string (B T)] w fun e w' => e = .returned (.tuple #[.string (B (f :: fs)), .string (B (c :: r))]) ∧ Below w.heap.size w w') :
  Calls Tryz.prog 40 #[.string (B l)] w fun e w' => e = .returned (.tuple #[.agg #[.int .i64 0, .bool false, .bool false, .string ⟨#[]⟩, .int .i64 0], .int .i64 2]) ∧ Below w.heap.size w w' := by
 have hsz := B_size l
 have hi : (l.length : Int) ≤ 4000 := by omega
 have htl := B_toList
 have hsm := gcell_set_map
 have hszQ : (B (c :: r)).size = r.length + 1 := rfl
 have hfs := B_first c r (by omega)
 have htq : (B (c :: r)).extract 1 (r.length + 1) = B r := B_tail c r
 have hcb := c.toNat_lt
 have g1 : ((c.toNat : Int) != 101) = true := by simpa using hc1
 have g2 : ((c.toNat : Int) != 69) = true := by simpa using hc2
 have hszT : (B (46 :: T)).size = T.length + 1 := rfl
 have hfT := B_first 46 T (by omega)
 have htT : (B (46 :: T)).extract 1 (T.length + 1) = B T := B_tail 46 T
 go_enter Tryz.func40, Tryz.ntmps40
 go_wp2_with (first | (go_at_call 38; refine (c19 _).mono ?_; rintro x w1 ⟨rfl, hb1⟩; obtain ⟨hc1, hf1, hz1_0, hl1_0, hA1, hs1⟩ := wz w hb1 w.heap.size; clear hb1) | (go_at_call 92; refine (c20 _).mono ?_; rintro x w2 ⟨rfl, hb2⟩; obtain ⟨hc2, hf2, hz2_0, hl2_0, hA2, hs2⟩ := wz w hb2 w.heap.size; clear hb2) | (go_at_call 93; refine (c21 _).mono ?_; rintro x w3 ⟨rfl, hb3⟩; clear c21; obtain ⟨hc3, hf3, hz3_0, hl3_0, hA3, hs3⟩ := wz w hb3 w.heap.size; clear hb3))
 go_wp2_with (first | (go_at_call 93; refine (c21b _).mono ?_; rintro x w4 ⟨rfl, hb4⟩; obtain ⟨hc4, hf4, hz4_0, hl4_0, hA4, hs4⟩ := wz w hb4 w.heap.size; clear hb4))
 exact bodyPost_ret (v := .tuple #[.agg #[.int .i64 0, .bool false, .bool false, .string ⟨#[]⟩, .int .i64 0], .int .i64 2]) (by simp only [results, Tryz.results40]; go_simp) rfl ⟨rfl, bgo⟩
theorem rcut_pk1z (l : List UInt8) (w : World) (hl : l.length ≤ 4000) (z : Bool) (R T : List UInt8) (Q : List UInt8) (hTl : T.length < 4001)
  (c19 : ∀ w, Calls Tryz.prog 38 #[.string (B l)] w fun e w' => e = .returned (.tuple #[.bool z, .string (B R)]) ∧ Below w.heap.size w w')
  (c20 : ∀ w, Calls Tryz.prog 92 #[.string (B R)] w fun e w' => e = .returned (.tuple #[.agg #[.int .i64 0, .bool false, .bool false, .string ⟨#[]⟩, .int .i64 0], .bool false]) ∧ Below w.heap.size w w')
  (c21 : ∀ w, Calls Tryz.prog 93 #[.string (B R)] w fun e w' => e = .returned (.tuple #[.string (B []), .string (B (46 :: T))]) ∧ Below w.heap.size w w')
  (c21b : ∀ w, Calls Tryz.prog 93 #[.string (B T)] w fun e w' => e = .returned (.tuple #[.string (B []), .string (B Q)]) ∧ Below w.heap.size w w') :
  Calls Tryz.prog 40 #[.string (B l)] w fun e w' => e = .returned (.tuple #[.agg #[.int .i64 0, .bool false, .bool false, .string ⟨#[]⟩, .int .i64 0], .int .i64 2]) ∧ Below w.heap.size w w' := by
 have hsz := B_size l
 have hi : (l.length : Int) ≤ 4000 := by omega
 have htl := B_toList
 have hsm := gcell_set_map
 have hszT : (B (46 :: T)).size = T.length + 1 := rfl
 have hfT := B_first 46 T (by omega)
 have htT : (B (46 :: T)).extract 1 (T.length + 1) = B T := B_tail 46 T
 go_enter Tryz.func40, Tryz.ntmps40
 go_wp2_with (first | (go_at_call 38; refine (c19 _).mono ?_; rintro x w1 ⟨rfl, hb1⟩; obtain ⟨hc1, hf1, hz1_0, hl1_0, hA1, hs1⟩ := wz w hb1 w.heap.size; clear hb1) | (go_at_call 92; refine (c20 _).mono ?_; rintro x w2 ⟨rfl, hb2⟩; obtain ⟨hc2, hf2, hz2_0, hl2_0, hA2, hs2⟩ := wz w hb2 w.heap.size; clear hb2) | (go_at_call 93; refine (c21 _).mono ?_; rintro x w3 ⟨rfl, hb3⟩; clear c21; obtain ⟨hc3, hf3, hz3_0, hl3_0, hA3, hs3⟩ := wz w hb3 w.heap.size; clear hb3))
 go_wp2_with (first | (go_at_call 93; refine (c21b _).mono ?_; rintro x w4 ⟨rfl, hb4⟩; obtain ⟨hc4, hf4, hz4_0, hl4_0, hA4, hs4⟩ := wz w hb4 w.heap.size; clear hb4))
 exact bodyPost_ret (v := .tuple #[.agg #[.int .i64 0, .bool false, .bool false, .string ⟨#[]⟩, .int .i64 0], .int .i64 2]) (by simp only [results, Tryz.results40]; go_simp) rfl ⟨rfl, bgo⟩
theorem rcut_pk2x (l : List UInt8) (w : World) (hl : l.length ≤ 4000) (z : Bool) (R T : List UInt8) (x : UInt8) (xs : List UInt8) (hX : xs.length + 1 < 4001) (F : List UInt8) (hF : F.length < 4001) (c : UInt8) (r : List UInt8) (hr : r.length < 4001) (hc : (c.toNat : Int) = 101 ∨ (c.toNat : Int) = 69) (E : Int) (hTl : T.length < 4001)
  (c19 : ∀ w, Calls Tryz.prog 38 #[.string (B l)] w fun e w' => e = .returned (.tuple #[.bool z, .string (B R)]) ∧ Below w.heap.size w w')
  (c20 : ∀ w, Calls Tryz.prog 92 #[.string (B R)] w fun e w' => e = .returned (.tuple #[.agg #[.int .i64 0, .bool false, .bool false, .string ⟨#[]⟩, .int .i64 0], .bool false]) ∧ Below w.heap.size w w')
  (c21 : ∀ w, Calls Tryz.prog 93 #[.string (B R)] w fun e w' => e = .returned (.tuple #[.string (B (x :: xs)), .string (B (46 :: T))]) ∧ Below w.heap.size w w')
  (c21b : ∀ w, Calls Tryz.prog 93 #[.string (B T)] w fun e w' => e = .returned (.tuple #[.string (B F), .string (B (c :: r))]) ∧ Below w.heap.size w w')
  (c22 : ∀ w, Calls Tryz.prog 43 #[.string (B r)] w fun e w' => e = .returned (.tuple #[.int .i64 E, .bool false]) ∧ Below w.heap.size w w') :
  Calls Tryz.prog 40 #[.string (B l)] w fun e w' => e = .returned (.tuple #[.agg #[.int .i64 0, .bool false, .bool false, .string ⟨#[]⟩, .int .i64 0], .int .i64 2]) ∧ Below w.heap.size w w' := by
 have hsz := B_size l
 have hi : (l.length : Int) ≤ 4000 := by omega
 have htl := B_toList
 have hsm := gcell_set_map
 have hszQ : (B (c :: r)).size = r.length + 1 := rfl
 have hfs := B_first c r (by omega)
 have htq : (B (c :: r)).extract 1 (r.length + 1) = B r := B_tail c r
 have hcb := c.toNat_lt
 have hszT : (B (46 :: T)).size = T.length + 1 := rfl
 have hfT := B_first 46 T (by omega)
 have htT : (B (46 :: T)).extract 1 (T.length + 1) = B T := B_tail 46 T
 rcases hc with h | h
 all_goals
  go_enter Tryz.func40, Tryz.ntmps40
  go_wp2_with (first | (go_at_call 38; refine (c19 _).mono ?_; rintro x w1 ⟨rfl, hb1⟩; obtain ⟨hc1, hf1, hz1_0, hl1_0, hA1, hs1⟩ := wz w hb1 w.heap.size; clear hb1) | (go_at_call 92; refine (c20 _).mono ?_; rintro x w2 ⟨rfl, hb2⟩; obtain ⟨hc2, hf2, hz2_0, hl2_0, hA2, hs2⟩ := wz w hb2 w.heap.size; clear hb2) | (go_at_call 93; refine (c21 _).mono ?_; rintro x w3 ⟨rfl, hb3⟩; clear c21; obtain ⟨hc3, hf3, hz3_0, hl3_0, hA3, hs3⟩ := wz w hb3 w.heap.size; clear hb3))
  go_wp2_with (first | (go_at_call 93; refine (c21b _).mono ?_; rintro x w4 ⟨rfl, hb4⟩; obtain ⟨hc4, hf4, hz4_0, hl4_0, hA4, hs4⟩ := wz w hb4 w.heap.size; clear hb4) | (go_at_call 43; refine (c22 _).mono ?_; rintro x w5 ⟨rfl, hb5⟩; obtain ⟨hc5, hf5, hz5_0, hl5_0, hA5, hs5⟩ := wz w hb5 w.heap.size; clear hb5))
  exact bodyPost_ret (v := .tuple #[.agg #[.int .i64 0, .bool false, .bool false, .string ⟨#[]⟩, .int .i64 0], .int .i64 2]) (by simp only [results, Tryz.results40]; go_simp) rfl ⟨rfl, bgo⟩
theorem rcut_pk2f (l : List UInt8) (w : World) (hl : l.length ≤ 4000) (z : Bool) (R T : List UInt8) (f : UInt8) (fs : List UInt8) (hF : fs.length + 1 < 4001) (c : UInt8) (r : List UInt8) (hr : r.length < 4001) (hc : (c.toNat : Int) = 101 ∨ (c.toNat : Int) = 69) (E : Int) (hTl : T.length < 4001)
  (c19 : ∀ w, Calls Tryz.prog 38 #[.string (B l)] w fun e w' => e = .returned (.tuple #[.bool z, .string (B R)]) ∧ Below w.heap.size w w')
  (c20 : ∀ w, Calls Tryz.prog 92 #[.string (B R)] w fun e w' => e = .returned (.tuple #[.agg #[.int .i64 0, .bool false, .bool false, .string ⟨#[]⟩, .int .i64 0], .bool false]) ∧ Below w.heap.size w w')
  (c21 : ∀ w, Calls Tryz.prog 93 #[.string (B R)] w fun e w' => e = .returned (.tuple #[.string (B []), .string (B (46 :: T))]) ∧ Below w.heap.size w w')
  (c21b : ∀ w, Calls Tryz.prog 93 #[.string (B T)] w fun e w' => e = .returned (.tuple #[.string (B (f :: fs)), .string (B (c :: r))]) ∧ Below w.heap.size w w')
  (c22 : ∀ w, Calls Tryz.prog 43 #[.string (B r)] w fun e w' => e = .returned (.tuple #[.int .i64 E, .bool false]) ∧ Below w.heap.size w w') :
  Calls Tryz.prog 40 #[.string (B l)] w fun e w' => e = .returned (.tuple #[.agg #[.int .i64 0, .bool false, .bool false, .string ⟨#[]⟩, .int .i64 0], .int .i64 2]) ∧ Below w.heap.size w w' := by
 have hsz := B_size l
 have hi : (l.length : Int) ≤ 4000 := by omega
 have htl := B_toList
 have hsm := gcell_set_map
 have hszQ : (B (c :: r)).size = r.length + 1 := rfl
 have hfs := B_first c r (by omega)
 have htq : (B (c :: r)).extract 1 (r.length + 1) = B r := B_tail c r
 have hcb := c.toNat_lt
 have hszT : (B (46 :: T)).size = T.length + 1 := rfl
 have hfT := B_first 46 T (by omega)
 have htT : (B (46 :: T)).extract 1 (T.length + 1) = B T := B_tail 46 T
 rcases hc with h | h
 all_goals
  go_enter Tryz.func40, Tryz.ntmps40
  go_wp2_with (first | (go_at_call 38; refine (c19 _).mono ?_; rintro x w1 ⟨rfl, hb1⟩; obtain ⟨hc1, hf1, hz1_0, hl1_0, hA1, hs1⟩ := wz w hb1 w.heap.size; clear hb1) | (go_at_call 92; refine (c20 _).mono ?_; rintro x w2 ⟨rfl, hb2⟩; obtain ⟨hc2, hf2, hz2_0, hl2_0, hA2, hs2⟩ := wz w hb2 w.heap.size; clear hb2) | (go_at_call 93; refine (c21 _).mono ?_; rintro x w3 ⟨rfl, hb3⟩; clear c21; obtain ⟨hc3, hf3, hz3_0, hl3_0, hA3, hs3⟩ := wz w hb3 w.heap.size; clear hb3))
  go_wp2_with (first | (go_at_call 93; refine (c21b _).mono ?_; rintro x w4 ⟨rfl, hb4⟩; obtain ⟨hc4, hf4, hz4_0, hl4_0, hA4, hs4⟩ := wz w hb4 w.heap.size; clear hb4) | (go_at_call 43; refine (c22 _).mono ?_; rintro x w5 ⟨rfl, hb5⟩; obtain ⟨hc5, hf5, hz5_0, hl5_0, hA5, hs5⟩ := wz w hb5 w.heap.size; clear hb5))
  exact bodyPost_ret (v := .tuple #[.agg #[.int .i64 0, .bool false, .bool false, .string ⟨#[]⟩, .int .i64 0], .int .i64 2]) (by simp only [results, Tryz.results40]; go_simp) rfl ⟨rfl, bgo⟩
theorem rcut_pk3x (l : List UInt8) (w : World) (hl : l.length ≤ 4000) (z : Bool) (R T : List UInt8) (x : UInt8) (xs : List UInt8) (hX : xs.length + 1 < 4001) (F : List UInt8) (hF : F.length < 4001) (c : UInt8) (r : List UInt8) (hr : r.length < 4001) (hc : (c.toNat : Int) = 101 ∨ (c.toNat : Int) = 69) (E : Int) (hTl : T.length < 4001) (D : List UInt8)
  (c19 : ∀ w, Calls Tryz.prog 38 #[.string (B l)] w fun e w' => e = .returned (.tuple #[.bool z, .string (B R)]) ∧ Below w.heap.size w w')
  (c20 : ∀ w, Calls Tryz.prog 92 #[.string (B R)] w fun e w' => e = .returned (.tuple #[.agg #[.int .i64 0, .bool false, .bool false, .string ⟨#[]⟩, .int .i64 0], .bool false]) ∧ Below w.heap.size w w')
  (c21 : ∀ w, Calls Tryz.prog 93 #[.string (B R)] w fun e w' => e = .returned (.tuple #[.string (B (x :: xs)), .string (B (46 :: T))]) ∧ Below w.heap.size w w')
  (c21b : ∀ w, Calls Tryz.prog 93 #[.string (B T)] w fun e w' => e = .returned (.tuple #[.string (B F), .string (B (c :: r))]) ∧ Below w.heap.size w w')
  (c22 : ∀ w, Calls Tryz.prog 43 #[.string (B r)] w fun e w' => e = .returned (.tuple #[.int .i64 E, .bool true]) ∧ Below w.heap.size w w') (hE : -2000000000 ≤ E ∧ E ≤ 2000000000)
  (c23 : ∀ w, Calls Tryz.prog 94 #[.string (B ((x :: xs) ++ F))] w fun e w' => e = .returned (.string (B D)) ∧ Below w.heap.size w w') :
  Calls Tryz.prog 40 #[.string (B l)] w fun e w' => e = .returned (.tuple #[.agg #[.int .i64 1, .bool z, .bool false, .string (B D), .int .i64 (min (max (E - (F.length : Int)) (-1000000000)) 1000000000)], .int .i64 0]) ∧ Below w.heap.size w w' := by
 have hsz := B_size l
 have hi : (l.length : Int) ≤ 4000 := by omega
 have htl := B_toList
 have hsm := gcell_set_map
 have hszQ : (B (c :: r)).size = r.length + 1 := rfl
 have hfs := B_first c r (by omega)
 have htq : (B (c :: r)).extract 1 (r.length + 1) = B r := B_tail c r
 have hcb := c.toNat_lt
 have hszT : (B (46 :: T)).size = T.length + 1 := rfl
 have hfT := B_first 46 T (by omega)
 have htT : (B (46 :: T)).extract 1 (T.length + 1) = B T := B_tail 46 T
 have hap := B_app (x :: xs) F
 have hXs : (B (x :: xs)).size < 4001 := hX
 have hFs := B_size F
 have hF9 : (B F).size < 4001 := by rw [hFs]; exact hF
 rcases hc with h | h
 all_goals
  go_enter Tryz.func40, Tryz.ntmps40
  go_wp2_with (first | (go_at_call 38; refine (c19 _).mono ?_; rintro x w1 ⟨rfl, hb1⟩; obtain ⟨hc1, hf1, hz1_0, hl1_0, hA1, hs1⟩ := wz w hb1 w.heap.size; clear hb1) | (go_at_call 92; refine (c20 _).mono ?_; rintro x w2 ⟨rfl, hb2⟩; obtain ⟨hc2, hf2, hz2_0, hl2_0, hA2, hs2⟩ := wz w hb2 w.heap.size; clear hb2) | (go_at_call 93; refine (c21 _).mono ?_; rintro x w3 ⟨rfl, hb3⟩; clear c21; obtain ⟨hc3, hf3, hz3_0, hl3_0, hA3, hs3⟩ := wz w hb3 w.heap.size; clear hb3))
  go_wp2_with (first | (go_at_call 93; refine (c21b _).mono ?_; rintro x w4 ⟨rfl, hb4⟩; obtain ⟨hc4, hf4, hz4_0, hl4_0, hA4, hs4⟩ := wz w hb4 w.heap.size; clear hb4) | (go_at_call 43; refine (c22 _).mono ?_; rintro x w5 ⟨rfl, hb5⟩; obtain ⟨hc5, hf5, hz5_0, hl5_0, hA5, hs5⟩ := wz w hb5 w.heap.size; clear hb5) | (go_at_call 94; refine (c23 _).mono ?_; rintro x w6 ⟨rfl, hb6⟩; obtain ⟨hc6, hf6, hz6_0, hl6_0, hA6, hs6⟩ := wz w hb6 w.heap.size; clear hb6))
  exact bodyPost_ret (v := .tuple #[.agg #[.int .i64 1, .bool z, .bool false, .string (B D), .int .i64 (min (max (E - (F.length : Int)) (-1000000000)) 1000000000)], .int .i64 0]) (by simp only [results, Tryz.results40]; go_simp) rfl ⟨rfl, bgo⟩
theorem rcut_pk3f (l : List UInt8) (w : World) (hl : l.length ≤ 4000) (z : Bool) (R T : List UInt8) (f : UInt8) (fs : List UInt8) (hF : fs.length + 1 < 4001) (c : UInt8) (r : List UInt8) (hr : r.length < 4001) (hc : (c.toNat : Int) = 101 ∨ (c.toNat : Int) = 69) (E : Int) (hTl : T.length < 4001) (D : List UInt8)
  (c19 : ∀ w, Calls Tryz.prog 38 #[.string (B l)] w fun e w' => e = .returned (.tuple #[.bool z, .string (B R)]) ∧ Below w.heap.size w w')
  (c20 : ∀ w, Calls Tryz.prog 92 #[.string (B R)] w fun e w' => e = .returned (.tuple #[.agg #[.int .i64 0, .bool false, .bool false, .string ⟨#[]⟩, .int .i64 0], .bool false]) ∧ Below w.heap.size w w')
  (c21 : ∀ w, Calls Tryz.prog 93 #[.string (B R)] w fun e w' => e = .returned (.tuple #[.string (B []), .string (B (46 :: T))]) ∧ Below w.heap.size w w')
  (c21b : ∀ w, Calls Tryz.prog 93 #[.string (B T)] w fun e w' => e = .returned (.tuple #[.string (B (f :: fs)), .string (B (c :: r))]) ∧ Below w.heap.size w w')
  (c22 : ∀ w, Calls Tryz.prog 43 #[.string (B r)] w fun e w' => e = .returned (.tuple #[.int .i64 E, .bool true]) ∧ Below w.heap.size w w') (hE : -2000000000 ≤ E ∧ E ≤ 2000000000)
  (c23 : ∀ w, Calls Tryz.prog 94 #[.string (B ([] ++ (f :: fs)))] w fun e w' => e = .returned (.string (B D)) ∧ Below w.heap.size w w') :
  Calls Tryz.prog 40 #[.string (B l)] w fun e w' => e = .returned (.tuple #[.agg #[.int .i64 1, .bool z, .bool false, .string (B D), .int .i64 (min (max (E - ((fs.length : Int) + 1)) (-1000000000)) 1000000000)], .int .i64 0]) ∧ Below w.heap.size w w' := by
 have hsz := B_size l
 have hi : (l.length : Int) ≤ 4000 := by omega
 have htl := B_toList
 have hsm := gcell_set_map
 have hszQ : (B (c :: r)).size = r.length + 1 := rfl
 have hfs := B_first c r (by omega)
 have htq : (B (c :: r)).extract 1 (r.length + 1) = B r := B_tail c r
 have hcb := c.toNat_lt
 have hszT : (B (46 :: T)).size = T.length + 1 := rfl
 have hfT := B_first 46 T (by omega)
 have htT : (B (46 :: T)).extract 1 (T.length + 1) = B T := B_tail 46 T
 have hap := B_app [] (f :: fs)
 have hXs : (B []).size = 0 := rfl
 have hFs : (B (f :: fs)).size = fs.length + 1 := rfl
 have hF9 : (B (f :: fs)).size < 4001 := hF
 rcases hc with h | h
 all_goals
  go_enter Tryz.func40, Tryz.ntmps40
  go_wp2_with (first | (go_at_call 38; refine (c19 _).mono ?_; rintro x w1 ⟨rfl, hb1⟩; obtain ⟨hc1, hf1, hz1_0, hl1_0, hA1, hs1⟩ := wz w hb1 w.heap.size; clear hb1) | (go_at_call 92; refine (c20 _).mono ?_; rintro x w2 ⟨rfl, hb2⟩; obtain ⟨hc2, hf2, hz2_0, hl2_0, hA2, hs2⟩ := wz w hb2 w.heap.size; clear hb2) | (go_at_call 93; refine (c21 _).mono ?_; rintro x w3 ⟨rfl, hb3⟩; clear c21; obtain ⟨hc3, hf3, hz3_0, hl3_0, hA3, hs3⟩ := wz w hb3 w.heap.size; clear hb3))
  go_wp2_with (first | (go_at_call 93; refine (c21b _).mono ?_; rintro x w4 ⟨rfl, hb4⟩; obtain ⟨hc4, hf4, hz4_0, hl4_0, hA4, hs4⟩ := wz w hb4 w.heap.size; clear hb4) | (go_at_call 43; refine (c22 _).mono ?_; rintro x w5 ⟨rfl, hb5⟩; obtain ⟨hc5, hf5, hz5_0, hl5_0, hA5, hs5⟩ := wz w hb5 w.heap.size; clear hb5) | (go_at_call 94; refine (c23 _).mono ?_; rintro x w6 ⟨rfl, hb6⟩; obtain ⟨hc6, hf6, hz6_0, hl6_0, hA6, hs6⟩ := wz w hb6 w.heap.size; clear hb6))
  exact bodyPost_ret (v := .tuple #[.agg #[.int .i64 1, .bool z, .bool false, .string (B D), .int .i64 (min (max (E - ((fs.length : Int) + 1)) (-1000000000)) 1000000000)], .int .i64 0]) (by simp only [results, Tryz.results40]; go_simp) rfl ⟨rfl, bgo⟩
end Go.Proofs.YtplocajjfoiklaaGreatDoor
