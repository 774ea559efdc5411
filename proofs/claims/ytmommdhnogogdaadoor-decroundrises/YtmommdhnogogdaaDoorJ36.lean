/-
  Texts that the proof leans on, joined: Us.
-/
import Derived.Test.YtmommdhnogogdaaDoorJ35
import Derived.Test.YtmommdhnogogdaaDoorJ32
import Derived.Test.YtmommdhnogogdaaDoorJ19
import Derived.Test.YtmommdhnogogdaaDoorJ1
set_option linter.unusedVariables false
set_option linter.unusedSectionVars false
set_option linter.unusedSimpArgs false
set_option maxRecDepth 20000
namespace Go.Proofs.YtmommdhnogogdaaDoor
open Go.RowKit
attribute [local irreducible] W4 Nt NT
section
variable (TT : World → Prop) (hTT : ∀ w w', TT w → Below w.heap.size w w' → TT w')
variable (n d x : Int) (an am ad : Option Addr) (kn cn km cm kd cd : Nat) (w : World) (hT : TT w)
  (c9 : ∀ W, TT W → Calls Tryd.prog 7 #[] W fun r w' => r = .returned (.bool true) ∧ Below W.heap.size W w')
include hTT hT c9
set_option maxHeartbeats 2000000 in
theorem dris_l1 (h : (60 : Int) < (kn : Int)) : Calls Tryd.prog 6 #[.int .i64 n, .int .i64 d, .slice an kn cn, .slice am km cm, .slice ad kd cd, .int .i64 x] w fun r w' => r = .returned (.bool true) ∧ Below w.heap.size w w' := by
  go_enter Tryd.func6, Tryd.ntmps6
  go_wp2_with (first
    | (go_at_call 7; refine (c9 _ hT).mono ?_; rintro r w1 ⟨rfl, hb1⟩; have hT1 := hTT _ _ hT hb1; clear hT; obtain ⟨hc1, hf1⟩ := bcell hb1; have hA1 := bnext (w0 := w) bgo hb1; have hs1 := hA1.size; clear hb1)
    | (go_at_call 7; refine (c9 _ hT1).mono ?_; rintro r w2 ⟨rfl, hb2⟩; obtain ⟨hc2, hf2⟩ := bcell hb2; have hA2 := bnext (w0 := w) bgo hb2; have hs2 := hA2.size; clear hb2))
  go_ret
  exact ⟨by first | rfl | simp, bgo⟩
set_option maxHeartbeats 2000000 in
theorem dris_l2 (h1 : ¬ (60 : Int) < (kn : Int)) (h : (60 : Int) < (km : Int)) : Calls Tryd.prog 6 #[.int .i64 n, .int .i64 d, .slice an kn cn, .slice am km cm, .slice ad kd cd, .int .i64 x] w fun r w' => r = .returned (.bool true) ∧ Below w.heap.size w w' := by
  go_enter Tryd.func6, Tryd.ntmps6
  go_wp2_with (first
    | (go_at_call 7; refine (c9 _ hT).mono ?_; rintro r w1 ⟨rfl, hb1⟩; have hT1 := hTT _ _ hT hb1; clear hT; obtain ⟨hc1, hf1⟩ := bcell hb1; have hA1 := bnext (w0 := w) bgo hb1; have hs1 := hA1.size; clear hb1)
    | (go_at_call 7; refine (c9 _ hT1).mono ?_; rintro r w2 ⟨rfl, hb2⟩; obtain ⟨hc2, hf2⟩ := bcell hb2; have hA2 := bnext (w0 := w) bgo hb2; have hs2 := hA2.size; clear hb2))
  go_ret
  exact ⟨by first | rfl | simp, bgo⟩
set_option maxHeartbeats 2000000 in
theorem dris_l3 (h1 : ¬ (60 : Int) < (kn : Int)) (h2 : ¬ (60 : Int) < (km : Int)) (h : (60 : Int) < (kd : Int)) : Calls Tryd.prog 6 #[.int .i64 n, .int .i64 d, .slice an kn cn, .slice am km cm, .slice ad kd cd, .int .i64 x] w fun r w' => r = .returned (.bool true) ∧ Below w.heap.size w w' := by
  go_enter Tryd.func6, Tryd.ntmps6
  go_wp2_with (first
    | (go_at_call 7; refine (c9 _ hT).mono ?_; rintro r w1 ⟨rfl, hb1⟩; have hT1 := hTT _ _ hT hb1; clear hT; obtain ⟨hc1, hf1⟩ := bcell hb1; have hA1 := bnext (w0 := w) bgo hb1; have hs1 := hA1.size; clear hb1)
    | (go_at_call 7; refine (c9 _ hT1).mono ?_; rintro r w2 ⟨rfl, hb2⟩; obtain ⟨hc2, hf2⟩ := bcell hb2; have hA2 := bnext (w0 := w) bgo hb2; have hs2 := hA2.size; clear hb2))
  go_ret
  exact ⟨by first | rfl | simp, bgo⟩
variable (h1 : ¬ (60 : Int) < (kn : Int)) (h2 : ¬ (60 : Int) < (km : Int)) (h3 : ¬ (60 : Int) < (kd : Int)) (ac ax bc bx F F' E E' : Int) (sa ag sb bg : Bool) (ak bk S : Nat)
  (c10 : ∀ W, TT W → Below w.heap.size w W → Calls Tryd.prog 8 #[.int .i64 n, .int .i64 d, .bool false, .slice an kn cn, .slice ad kd cd, .int .i64 x, .int .i64 0] W fun r w' => r = .returned (.tuple #[DV ac sa ag ax ak, .int .i64 F, .int .i64 E]) ∧ Below W.heap.size W w')
  (cA : ∀ W, Below w.heap.size w W → Calls Tryd.prog 12 #[.slice an kn cn, .slice am km cm] W fun r w' => ∃ v, r = .returned v ∧ Nt 2001 S v w' ∧ Below W.heap.size W w')
  (c11 : ∀ W v, TT W → Below w.heap.size w W → Nt 2001 S v W → Calls Tryd.prog 8 #[.int .i64 n, .int .i64 d, .bool false, v, .slice ad kd cd, .int .i64 x, .int .i64 0] W fun r w' => r = .returned (.tuple #[DV bc sb bg bx bk, .int .i64 F', .int .i64 E']) ∧ Below W.heap.size W w')
include h1 h2 h3 c10 cA c11
set_option maxHeartbeats 2000000 in
theorem dris_e (hE : (E != 0) = true) (hE' : E' = E) : Calls Tryd.prog 6 #[.int .i64 n, .int .i64 d, .slice an kn cn, .slice am km cm, .slice ad kd cd, .int .i64 x] w fun r w' => r = .returned (.bool true) ∧ Below w.heap.size w w' := by
  subst hE'
  have hsm := cell_set_map
  unfold DV at *
  go_enter Tryd.func6, Tryd.ntmps6
  go_wp2_with (first
    | (go_at_call 7; refine (c9 _ hT).mono ?_; rintro r w1 ⟨rfl, hb1⟩; obtain ⟨hc1, hf1⟩ := bcell hb1; have hA1 := bnext (w0 := w) bgo hb1; have hs1 := hA1.size; clear hb1)
    | (go_at_call 8; refine (c10 _ (hTT _ _ hT bgo) bgo).mono ?_; rintro r w2 ⟨rfl, hb2⟩; clear c10; obtain ⟨hc2, hf2⟩ := bcell hb2; have hA2 := bnext (w0 := w) bgo hb2; have hs2 := hA2.size; clear hb2)
    | (go_at_call 12; refine (cA _ bgo).mono ?_; rintro r w3 ⟨v3, rfl, hv3, hb3⟩; obtain ⟨hc3, hf3⟩ := bcell hb3; have hz3_0 : w2.heap.size < w3.heap.size := lt_below hb3 ltg; have hl3_0 := Nat.le_of_lt hz3_0; have hA3 := bnext (w0 := w) bgo hb3; have hs3 := hA3.size; clear hb3)
    | (go_at_call 8; refine (c11 _ _ (hTT _ _ hT bgo) bgo hv3).mono ?_; rintro r w4 ⟨rfl, hb4⟩; obtain ⟨hc4, hf4⟩ := bcell hb4; have hz4_0 : w2.heap.size < w4.heap.size := lt_below hb4 ltg; have hl4_0 := Nat.le_of_lt hz4_0; have hA4 := bnext (w0 := w) bgo hb4; have hs4 := hA4.size; clear hb4))
  go_ret
  exact ⟨by first | rfl | simp, bgo⟩
set_option maxHeartbeats 2000000 in
theorem dris_c (hE : E = 0) (hE' : E' = 0) (hc : (ac != 1) = true ∨ (ac = 1 ∧ (bc != 1) = true)) (hb : bc = 2) : Calls Tryd.prog 6 #[.int .i64 n, .int .i64 d, .slice an kn cn, .slice am km cm, .slice ad kd cd, .int .i64 x] w fun r w' => r = .returned (.bool true) ∧ Below w.heap.size w w' := by
  subst hE hE' hb
  have hsm := cell_set_map
  unfold DV at *
  rcases hc with hc | ⟨rfl, hc⟩
  · go_enter Tryd.func6, Tryd.ntmps6
    go_wp2_with (first
      | (go_at_call 7; refine (c9 _ hT).mono ?_; rintro r w1 ⟨rfl, hb1⟩; obtain ⟨hc1, hf1⟩ := bcell hb1; have hA1 := bnext (w0 := w) bgo hb1; have hs1 := hA1.size; clear hb1)
      | (go_at_call 8; refine (c10 _ (hTT _ _ hT bgo) bgo).mono ?_; rintro r w2 ⟨rfl, hb2⟩; clear c10; obtain ⟨hc2, hf2⟩ := bcell hb2; have hA2 := bnext (w0 := w) bgo hb2; have hs2 := hA2.size; clear hb2)
      | (go_at_call 12; refine (cA _ bgo).mono ?_; rintro r w3 ⟨v3, rfl, hv3, hb3⟩; obtain ⟨hc3, hf3⟩ := bcell hb3; have hz3_0 : w2.heap.size < w3.heap.size := lt_below hb3 ltg; have hl3_0 := Nat.le_of_lt hz3_0; have hA3 := bnext (w0 := w) bgo hb3; have hs3 := hA3.size; clear hb3)
      | (go_at_call 8; refine (c11 _ _ (hTT _ _ hT bgo) bgo hv3).mono ?_; rintro r w4 ⟨rfl, hb4⟩; obtain ⟨hc4, hf4⟩ := bcell hb4; have hz4_0 : w2.heap.size < w4.heap.size := lt_below hb4 ltg; have hl4_0 := Nat.le_of_lt hz4_0; have hA4 := bnext (w0 := w) bgo hb4; have hs4 := hA4.size; clear hb4))
    go_ret
    exact ⟨by first | rfl | simp, bgo⟩
  · go_enter Tryd.func6, Tryd.ntmps6
    go_wp2_with (first
      | (go_at_call 7; refine (c9 _ hT).mono ?_; rintro r w1 ⟨rfl, hb1⟩; obtain ⟨hc1, hf1⟩ := bcell hb1; have hA1 := bnext (w0 := w) bgo hb1; have hs1 := hA1.size; clear hb1)
      | (go_at_call 8; refine (c10 _ (hTT _ _ hT bgo) bgo).mono ?_; rintro r w2 ⟨rfl, hb2⟩; clear c10; obtain ⟨hc2, hf2⟩ := bcell hb2; have hA2 := bnext (w0 := w) bgo hb2; have hs2 := hA2.size; clear hb2)
      | (go_at_call 12; refine (cA _ bgo).mono ?_; rintro r w3 ⟨v3, rfl, hv3, hb3⟩; obtain ⟨hc3, hf3⟩ := bcell hb3; have hz3_0 : w2.heap.size < w3.heap.size := lt_below hb3 ltg; have hl3_0 := Nat.le_of_lt hz3_0; have hA3 := bnext (w0 := w) bgo hb3; have hs3 := hA3.size; clear hb3)
      | (go_at_call 8; refine (c11 _ _ (hTT _ _ hT bgo) bgo hv3).mono ?_; rintro r w4 ⟨rfl, hb4⟩; obtain ⟨hc4, hf4⟩ := bcell hb4; have hz4_0 : w2.heap.size < w4.heap.size := lt_below hb4 ltg; have hl4_0 := Nat.le_of_lt hz4_0; have hA4 := bnext (w0 := w) bgo hb4; have hs4 := hA4.size; clear hb4))
    go_ret
    exact ⟨by first | rfl | simp, bgo⟩
set_option maxHeartbeats 1000000 in
theorem dris_k (hE : E = 0) (hE' : E' = 0) (hca : ac = 1) (hcb : bc = 1) (A1 B1 A2 B2 X Y : Nat) (sg : Int)
    (n1 : ∀ W, Calls Tryd.prog 14 #[A4 ak] W fun e w' => ∃ v, e = .returned v ∧ NT 7000 ak v w' ∧ Below W.heap.size W w')
    (s1 : ∀ W u v, NT 7000 ak u W → NT 7000 1 v W → Calls Tryd.prog 13 #[u, v, .int .u64 10, .int .i64 ax] W fun e w' => ∃ p q, e = .returned (.tuple #[p, q]) ∧ NT 7000 A1 p w' ∧ NT 7000 B1 q w' ∧ Below W.heap.size W w')
    (n2 : ∀ W, Calls Tryd.prog 14 #[A4 bk] W fun e w' => ∃ v, e = .returned v ∧ NT 7000 bk v w' ∧ Below W.heap.size W w')
    (s2 : ∀ W u v, NT 7000 bk u W → NT 7000 1 v W → Calls Tryd.prog 13 #[u, v, .int .u64 10, .int .i64 bx] W fun e w' => ∃ p q, e = .returned (.tuple #[p, q]) ∧ NT 7000 A2 p w' ∧ NT 7000 B2 q w' ∧ Below W.heap.size W w')
    (t1 : ∀ W u v, NT 7000 A1 u W → NT 7000 B2 v W → Calls Tryd.prog 16 #[u, v] W fun e w' => ∃ p, e = .returned p ∧ NT 15000 X p w' ∧ Below W.heap.size W w')
    (t2 : ∀ W u v, NT 7000 A2 u W → NT 7000 B1 v W → Calls Tryd.prog 16 #[u, v] W fun e w' => ∃ p, e = .returned p ∧ NT 15000 Y p w' ∧ Below W.heap.size W w')
    (cc : ∀ W u v, NT 15000 X u W → NT 15000 Y v W → Calls Tryd.prog 15 #[u, v] W fun e w' => e = .returned (.int .i64 sg) ∧ W = w') (hsg : sg ≤ 0) :
    Calls Tryd.prog 6 #[.int .i64 n, .int .i64 d, .slice an kn cn, .slice am km cm, .slice ad kd cd, .int .i64 x] w fun r w' => r = .returned (.bool true) ∧ Below w.heap.size w w' := by
  subst hE hE' hca hcb
  have hsm := cell_set_map
  unfold DV at *
  go_enter Tryd.func6, Tryd.ntmps6
  go_wp2_with (first
    | (go_at_call 7; refine (c9 _ hT).mono ?_; rintro r w1 ⟨rfl, hb1⟩; obtain ⟨hc1, hf1⟩ := bcell hb1; have hA1 := bnext (w0 := w) bgo hb1; have hs1 := hA1.size; clear hb1)
    | (go_at_call 8; refine (c10 _ (hTT _ _ hT bgo) bgo).mono ?_; rintro r w2 ⟨rfl, hb2⟩; clear c10; obtain ⟨hc2, hf2⟩ := bcell hb2; have hA2 := bnext (w0 := w) bgo hb2; have hs2 := hA2.size; clear hb2)
    | (go_at_call 12; refine (cA _ bgo).mono ?_; rintro r w3 ⟨v3, rfl, hv3, hb3⟩; obtain ⟨hc3, hf3⟩ := bcell hb3; have hz3_0 : w2.heap.size < w3.heap.size := lt_below hb3 ltg; have hl3_0 := Nat.le_of_lt hz3_0; have hA3 := bnext (w0 := w) bgo hb3; have hs3 := hA3.size; clear hb3)
    | (go_at_call 8; refine (c11 _ _ (hTT _ _ hT bgo) bgo hv3).mono ?_; rintro r w4 ⟨rfl, hb4⟩; obtain ⟨hc4, hf4⟩ := bcell hb4; have hz4_0 : w2.heap.size < w4.heap.size := lt_below hb4 ltg; have hl4_0 := Nat.le_of_lt hz4_0; have hA4 := bnext (w0 := w) bgo hb4; have hs4 := hA4.size; clear hb4))
  have q2 : w2.heap.size < w4.heap.size + 1 := by omega
  refine regR9 (g := w2.heap.size) (k := ak) (A := A1) (B := B1) (x := ax) (fun _ _ d _ _ h => by cases d <;> exact h) rfl rfl (by simp; omega) (by go_simp) (by go_simp) (by go_simp) (by go_simp) (by go_simp) n1 s1 ?_
  intro a9 w9 u9 v9 h19 h20 hu9 hv9 hsz hdf hF9 hb9
  have ha := act_of slotsAR9 12 rfl hsz hdf hF9
  rw [ha]
  simp only [slotsAR9, List.foldl_cons, List.foldl_nil, Act.put, List.setIfInBounds_toArray, List.set_cons_succ, List.set_cons_zero, h19, h20]
  generalize slot a9 84 = s84
  generalize slot a9 85 = s85
  generalize slot a9 86 = s86
  generalize slot a9 87 = s87
  generalize slot a9 88 = s88
  generalize slot a9 89 = s89
  generalize slot a9 90 = s90
  generalize slot a9 83 = s83
  generalize slot a9 91 = s91
  generalize slot a9 92 = s92
  clear ha h19 h20 hsz hdf hF9
  have q4 : w4.heap.size < w4.heap.size + 1 := by omega
  obtain ⟨hc9, hf9⟩ := bcell hb9; have hz9_0 : w2.heap.size < w9.heap.size := lt_below hb9 ltg; have hl9_0 := Nat.le_of_lt hz9_0; have hz9_1 : w4.heap.size < w9.heap.size := lt_below hb9 ltg; have hl9_1 := Nat.le_of_lt hz9_1; have hA9 := bnext (w0 := w) bgo hb9; have hs9 := hA9.size; clear hb9
  go_wp2
  refine regR10 (g := w4.heap.size) (k := bk) (A := A2) (B := B2) (x := bx) (fun _ _ d _ _ h => by cases d <;> exact h) rfl rfl (by omega) (by go_simp) (by go_simp) (by go_simp) (by go_simp) (by go_simp) n2 s2 ?_
  intro a10 w10 u10 v10 h21 h22 hu10 hv10 hsz hdf hF10 hb10
  have ha := act_of slotsAR10 12 rfl hsz hdf hF10
  rw [ha]
  simp only [slotsAR10, List.foldl_cons, List.foldl_nil, Act.put, List.setIfInBounds_toArray, List.set_cons_succ, List.set_cons_zero, h21, h22]
  generalize slot a10 94 = s94
  generalize slot a10 95 = s95
  generalize slot a10 96 = s96
  generalize slot a10 97 = s97
  generalize slot a10 98 = s98
  generalize slot a10 99 = s99
  generalize slot a10 100 = s100
  generalize slot a10 93 = s93
  generalize slot a10 101 = s101
  generalize slot a10 102 = s102
  clear ha h21 h22 hsz hdf hF10
  have gu9 := hu9.next hb10
  have gv9 := hv9.next hb10
  obtain ⟨hc10, hf10⟩ := bcell hb10; have hA10 := bnext (w0 := w) bgo hb10; have hs10 := hA10.size; clear hb10
  go_wp2_with (first
    | (go_at_call 16; have tt := t1 _ _ _ gu9 hv10; refine tt.mono ?_; clear tt; rintro r w11 ⟨p11, rfl, hp11, hb11⟩; clear t1; have ku10 := hu10.next hb11; have kv9 := gv9.next hb11; obtain ⟨hc11, hf11⟩ := bcell hb11; have hA11 := bnext (w0 := w) bgo hb11; have hs11 := hA11.size; clear hb11)
    | (go_at_call 16; have tt := t2 _ _ _ ku10 kv9; refine tt.mono ?_; clear tt; rintro r w12 ⟨p12, rfl, hp12, hb12⟩; have kp11 := hp11.next hb12; obtain ⟨hc12, hf12⟩ := bcell hb12; have hA12 := bnext (w0 := w) bgo hb12; have hs12 := hA12.size; clear hb12)
    | (go_at_call 15; have tt := cc _ _ _ kp11 hp12; refine tt.mono ?_; clear tt; rintro r w13 ⟨rfl, rfl⟩))
  go_ret
  exact ⟨by first | rfl | simp [hsg], bgo⟩
end
end Go.Proofs.YtmommdhnogogdaaDoor
