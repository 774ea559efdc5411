/-
  Texts that the proof leans on.
-/
import Derived.Test.YtehgnckgmdkfmaaDoorJ32
import Derived.Test.YtehgnckgmdkfmaaDoorJ15
import Derived.Test.YtehgnckgmdkfmaaDoorJ5
set_option linter.unusedVariables false
set_option linter.unusedSectionVars false
set_option linter.unusedSimpArgs false
set_option maxRecDepth 20000
namespace Go.Proofs.YtehgnckgmdkfmaaDoor
open Go.RowKit
section
attribute [local irreducible] W4 NT NV
section
variable (n : Int) (nm : ByteArray) (wd pr ex le mo pa : Int) (G T J : Int) (Bb A Rr sN : Nat) (V : Int) (s : Bool) (wn : Nat) (w : World)
  (hG0 : 11 ≤ G) (hG1 : G ≤ 100) (hT0 : 0 ≤ T) (hT1 : T ≤ 200) (hJ0 : 0 ≤ J) (hJ1 : J ≤ 11) (hAb : (A : Int) ≤ 200000)
  (cF1 : ∀ W, Calls Tryd.prog 35 #[A4 Bb, .int .i64 T, .int .i64 G] W fun r w' => ∃ v, r = .returned v ∧ NT 19 A v w' ∧ Below W.heap.size W w')
  (cF2 : ∀ W, Calls Tryd.prog 35 #[A4 Bb, .int .i64 0, .int .i64 T] W fun r w' => ∃ v, r = .returned v ∧ NT 19 Rr v w' ∧ Below W.heap.size W w')
  (cF3 : ∀ W, Calls Tryd.prog 35 #[A4 Bb, .int .i64 (T + G), .int .i64 1] W fun r w' => ∃ v, r = .returned v ∧ NT 19 sN v w' ∧ Below W.heap.size W w')
  (cM1 : ∀ W v, NT 19 A v W → Calls Tryd.prog 33 #[v] W fun r w' => r = .returned (.int .i64 (A : Int)) ∧ W = w')
  (cM3 : ∀ W v, NT 19 sN v W → Calls Tryd.prog 33 #[v] W fun r w' => r = .returned (.int .i64 (sN : Int)) ∧ W = w')
  (cB2 : ∀ W v, NT 19 Rr v W → Calls Tryd.prog 32 #[v] W fun r w' => r = .returned (A4 Rr) ∧ Below W.heap.size W w')
  (hw : G - 5 = (wn : Int)) (hwn : wn ≤ 12) (hV : (A : Int) / 2 ^ wn = V) (hV0 : 0 ≤ V) (hV1 : V ≤ 31) (hsg : ((sN : Int) == 1) = s)
include hG0 hG1 hT0 hT1 hJ0 hJ1 hAb cF1 cF2 cF3 cM1 cM3 cB2 hw hwn hV hV0 hV1 hsg
variable (H L F ld : Int) (hH : (2 : Int) ^ wn = H) (hH0 : 1 ≤ H) (hH1 : H ≤ 4096) (hld0 : 0 ≤ ld) (hld1 : ld ≤ 9) (hF0 : 0 ≤ F) (hF1 : F ≤ 20000) (hl0 : -30000 ≤ le) (hl1 : le ≤ 30000)
include hH hH0 hH1 hld0 hld1 hF0 hF1 hl0 hl1
set_option maxHeartbeats 4000000 in
theorem vmn_ds (Q d1 H4 sgv : Int) (U D M C PP lead : Nat)
    (cO : ∀ W, Calls Tryd.prog 24 #[.int .i64 n] W fun r w' => r = .returned (.tuple #[IDec n nm wd pr ex le mo pa true, .int .i64 0]) ∧ Below W.heap.size W w')
    (cS : ∀ W, Calls Tryd.prog 26 #[IDec n nm wd pr ex le mo pa true] W fun r w' => r = .returned (.tuple #[.int .i64 G, .int .i64 T, .int .i64 J]) ∧ Below W.heap.size W w')
    (h30 : (V == 30) = false) (h31 : (V == 31) = false) (h24 : V < 24)
    (cU : ∀ W, Calls Tryd.prog 53 #[A4 Rr, .int .i64 J] W fun r w' => r = .returned (.tuple #[A4 U, .int .i64 0]) ∧ Below W.heap.size W w')
    (hU : U < 2 ^ 256) (hL : bits .and .u64 (A : Int) (H - 1) = L) (hQH0 : 0 ≤ Q * H) (hQH1 : Q * H ≤ 200000) (hF : bits .or .u64 (Q * H) L = F) (hQ : V / 8 = Q) (h1 : bits .and .u64 V 7 = ld)
    (cP : ∀ W, Calls Tryd.prog 31 #[.int .u64 10, .int .i64 (3 * J)] W fun r w' => ∃ v, r = .returned v ∧ NV 50000 D v w' ∧ Below W.heap.size W w')
    (cT : ∀ W v v', NV 1 lead v W → NV 50000 D v' W → Calls Tryd.prog 56 #[v, v'] W fun r w' => ∃ v, r = .returned v ∧ NT 60000 M v w' ∧ Below W.heap.size W w')
    (cA : ∀ W v v', NT 60000 M v W → NV 4 U v' W → Calls Tryd.prog 55 #[v, v'] W fun r w' => ∃ v, r = .returned v ∧ NV 70000 C v w' ∧ Below W.heap.size W w')
    (hlead : ld = (lead : Int)) (cQ : ∀ W, Calls Tryd.prog 31 #[.int .u64 10, .int .i64 pr] W fun r w' => ∃ v, r = .returned v ∧ NV 50000 PP v w' ∧ Below W.heap.size W w')
    (cC : ∀ W v v', NV 70000 C v W → NV 50000 PP v' W → Calls Tryd.prog 58 #[v, v'] W fun r w' => r = .returned (.int .i64 sgv) ∧ W = w') (hsv : ¬ 0 ≤ sgv)
    (cB : ∀ W v, NV 70000 C v W → Calls Tryd.prog 32 #[v] W fun r w' => r = .returned (A4 C) ∧ Below W.heap.size W w') :
    Calls Tryd.prog 23 #[.int .i64 n, A4 Bb] w fun r w' => r = .returned (DV 1 s false (F + le) C) ∧ Below w.heap.size w w' := by
  have hsm := cell_set_map
  have hV2 : (A : Int) / H = V := by rw [← hH]; exact hV
  unfold DV A4 at *
  go_enter Tryd.func23, Tryd.ntmps23
  go_wp2_with (first
    | (go_at_call 24; refine (cO _).mono ?_; rintro r w1 ⟨rfl, hb1⟩; obtain ⟨hc1, hf1⟩ := bcell hb1; have hz1_0 : w.heap.size < w1.heap.size := lt_below hb1 ltg; have hl1_0 := Nat.le_of_lt hz1_0; have hz1_1 : w.heap.size + 1 < w1.heap.size := lt_below hb1 ltg; have hl1_1 := Nat.le_of_lt hz1_1; have hA1 := bnext (w0 := w) bgo hb1; have hs1 := hA1.size; clear hb1)
    | (go_at_call 26; refine (cS _).mono ?_; rintro r w2 ⟨rfl, hb2⟩; obtain ⟨hc2, hf2⟩ := bcell hb2; have hz2_0 : w.heap.size < w2.heap.size := lt_below hb2 ltg; have hl2_0 := Nat.le_of_lt hz2_0; have hz2_1 : w.heap.size + 1 < w2.heap.size := lt_below hb2 ltg; have hl2_1 := Nat.le_of_lt hz2_1; have hz2_2 : w1.heap.size < w2.heap.size := lt_below hb2 ltg; have hl2_2 := Nat.le_of_lt hz2_2; have hA2 := bnext (w0 := w) bgo hb2; have hs2 := hA2.size; clear hb2)
    | (go_at_call 35; refine (cF1 _).mono ?_; rintro r w3 ⟨vA, rfl, uA, hb3⟩; clear cF1; obtain ⟨hc3, hf3⟩ := bcell hb3; have hz3_0 : w.heap.size < w3.heap.size := lt_below hb3 ltg; have hl3_0 := Nat.le_of_lt hz3_0; have hz3_1 : w.heap.size + 1 < w3.heap.size := lt_below hb3 ltg; have hl3_1 := Nat.le_of_lt hz3_1; have hz3_2 : w1.heap.size < w3.heap.size := lt_below hb3 ltg; have hl3_2 := Nat.le_of_lt hz3_2; have hA3 := bnext (w0 := w) bgo hb3; have hs3 := hA3.size; clear hb3)
    | (go_at_call 33; refine (cM1 _ _ uA).mono ?_; rintro r w0 ⟨rfl, rfl⟩; clear cM1 uA)
    | (go_at_call 35; refine (cF2 _).mono ?_; rintro r w4 ⟨vR, rfl, uR, hb4⟩; clear cF2; obtain ⟨hc4, hf4⟩ := bcell hb4; have hz4_0 : w.heap.size < w4.heap.size := lt_below hb4 ltg; have hl4_0 := Nat.le_of_lt hz4_0; have hz4_1 : w.heap.size + 1 < w4.heap.size := lt_below hb4 ltg; have hl4_1 := Nat.le_of_lt hz4_1; have hz4_2 : w1.heap.size < w4.heap.size := lt_below hb4 ltg; have hl4_2 := Nat.le_of_lt hz4_2; have hA4 := bnext (w0 := w) bgo hb4; have hs4 := hA4.size; clear hb4)
    | (go_at_call 32; refine (cB2 _ _ uR).mono ?_; rintro r w5 ⟨rfl, hb5⟩; clear cB2 uR; obtain ⟨hc5, hf5⟩ := bcell hb5; have hz5_0 : w.heap.size < w5.heap.size := lt_below hb5 ltg; have hl5_0 := Nat.le_of_lt hz5_0; have hz5_1 : w.heap.size + 1 < w5.heap.size := lt_below hb5 ltg; have hl5_1 := Nat.le_of_lt hz5_1; have hz5_2 : w1.heap.size < w5.heap.size := lt_below hb5 ltg; have hl5_2 := Nat.le_of_lt hz5_2; have hA5 := bnext (w0 := w) bgo hb5; have hs5 := hA5.size; clear hb5)
    | (go_at_call 35; refine (cF3 _).mono ?_; rintro r w6 ⟨vS, rfl, uS, hb6⟩; clear cF3; obtain ⟨hc6, hf6⟩ := bcell hb6; have hz6_0 : w.heap.size < w6.heap.size := lt_below hb6 ltg; have hl6_0 := Nat.le_of_lt hz6_0; have hz6_1 : w.heap.size + 1 < w6.heap.size := lt_below hb6 ltg; have hl6_1 := Nat.le_of_lt hz6_1; have hz6_2 : w1.heap.size < w6.heap.size := lt_below hb6 ltg; have hl6_2 := Nat.le_of_lt hz6_2; have hz6_3 : w5.heap.size < w6.heap.size := lt_below hb6 ltg; have hl6_3 := Nat.le_of_lt hz6_3; have hA6 := bnext (w0 := w) bgo hb6; have hs6 := hA6.size; clear hb6; have q62_0 : w.heap.size < w6.heap.size + 1 + 1 := (by omega); have q62_1 : w.heap.size + 1 < w6.heap.size + 1 + 1 := (by omega); have q62_2 : w1.heap.size < w6.heap.size + 1 + 1 := (by omega); have q62_3 : w5.heap.size < w6.heap.size + 1 + 1 := (by omega); have q62_4 : w6.heap.size < w6.heap.size + 1 + 1 := (by omega); have q62_5 : w6.heap.size + 1 < w6.heap.size + 1 + 1 := (by omega))
    | (go_at_call 33; refine (cM3 _ _ uS).mono ?_; rintro r w0 ⟨rfl, rfl⟩; clear cM3 uS)
    | (go_at_call 53; refine (cU _).mono ?_; rintro r w7 ⟨rfl, hb7⟩; obtain ⟨hc7, hf7⟩ := bcell hb7; have hz7_0 : w.heap.size < w7.heap.size := lt_below hb7 ltg; have hl7_0 := Nat.le_of_lt hz7_0; have hz7_1 : w.heap.size + 1 < w7.heap.size := lt_below hb7 ltg; have hl7_1 := Nat.le_of_lt hz7_1; have hz7_2 : w1.heap.size < w7.heap.size := lt_below hb7 ltg; have hl7_2 := Nat.le_of_lt hz7_2; have hz7_3 : w5.heap.size < w7.heap.size := lt_below hb7 ltg; have hl7_3 := Nat.le_of_lt hz7_3; have hz7_4 : w6.heap.size < w7.heap.size := lt_below hb7 ltg; have hl7_4 := Nat.le_of_lt hz7_4; have hz7_5 : w6.heap.size + 1 < w7.heap.size := lt_below hb7 ltg; have hl7_5 := Nat.le_of_lt hz7_5; have hA7 := bnext (w0 := w) bgo hb7; have hs7 := hA7.size; clear hb7; have q71_0 : w.heap.size < w7.heap.size + 1 := (by omega); have q71_1 : w.heap.size + 1 < w7.heap.size + 1 := (by omega); have q71_2 : w1.heap.size < w7.heap.size + 1 := (by omega); have q71_3 : w5.heap.size < w7.heap.size + 1 := (by omega); have q71_4 : w6.heap.size < w7.heap.size + 1 := (by omega); have q71_5 : w6.heap.size + 1 < w7.heap.size + 1 := (by omega); have q72_6 : w.heap.size < w7.heap.size + 1 + 1 := (by omega); have q72_7 : w.heap.size + 1 < w7.heap.size + 1 + 1 := (by omega); have q72_8 : w1.heap.size < w7.heap.size + 1 + 1 := (by omega); have q72_9 : w5.heap.size < w7.heap.size + 1 + 1 := (by omega); have q72_10 : w6.heap.size < w7.heap.size + 1 + 1 := (by omega); have q72_11 : w6.heap.size + 1 < w7.heap.size + 1 + 1 := (by omega)))
  have uT : NV 4 U (.slice (some ⟨w6.heap.size + 1, 0, none⟩) 4 4) (((put4C w7 (w6.heap.size + 1) U).alloc (.cells #[] 22)).alloc (.cells #[.int .u64 (lead : Int)] 22)) := nv_cells hU (by first | (simp; done) | (simp; omega)) (by go_simp) (by go_simp) (by go_simp) (by go_simp)
  have uL : NV 1 lead (.slice (some ⟨w7.heap.size + 1, 0, none⟩) 1 1) (((put4C w7 (w6.heap.size + 1) U).alloc (.cells #[] 22)).alloc (.cells #[.int .u64 (lead : Int)] 22)) := nv_dec (by simp) rfl (by omega)
  refine reg28 (gl := w7.heap.size + 1) (gt := w6.heap.size + 1) (lead := lead) (D := D) (M := M) (C := C) (U := U) (J := J) (fun _ _ d _ _ h => by cases d <;> exact h) rfl rfl rfl rfl hJ0 hJ1 uL uT cP cT cA ?_
  intro a1 w10 vc h16 uc hsz hdf hF10 hb10
  have ha := act_of slotsA28 8 rfl hsz hdf hF10
  rw [ha]
  simp only [slotsA28, List.foldl_cons, List.foldl_nil, Act.put, List.setIfInBounds_toArray, List.set_cons_succ, List.set_cons_zero, h16]
  generalize slot a1 146 = s146
  generalize slot a1 147 = s147
  generalize slot a1 148 = s148
  generalize slot a1 149 = s149
  generalize slot a1 150 = s150
  generalize slot a1 151 = s151
  generalize slot a1 152 = s152
  clear ha h16 hsz hdf hF10 uT uL cP cT cA
  obtain ⟨hc10, hf10⟩ := bcell hb10; have hz10_0 : w.heap.size < w10.heap.size := lt_below hb10 ltg; have hl10_0 := Nat.le_of_lt hz10_0; have hz10_1 : w.heap.size + 1 < w10.heap.size := lt_below hb10 ltg; have hl10_1 := Nat.le_of_lt hz10_1; have hz10_2 : w1.heap.size < w10.heap.size := lt_below hb10 ltg; have hl10_2 := Nat.le_of_lt hz10_2; have hz10_3 : w5.heap.size < w10.heap.size := lt_below hb10 ltg; have hl10_3 := Nat.le_of_lt hz10_3; have hz10_4 : w6.heap.size < w10.heap.size := lt_below hb10 ltg; have hl10_4 := Nat.le_of_lt hz10_4; have hz10_5 : w6.heap.size + 1 < w10.heap.size := lt_below hb10 ltg; have hl10_5 := Nat.le_of_lt hz10_5; have hA10 := bnext (w0 := w) bgo hb10; have hs10 := hA10.size; clear hb10
  go_wp2_with (first
    | (go_at_call 31; refine (cQ _).mono ?_; rintro r w11 ⟨vq, rfl, uq, hb11⟩; have uc11 := uc.next hb11; clear uc; obtain ⟨hc11, hf11⟩ := bcell hb11; have hz11_0 : w.heap.size < w11.heap.size := lt_below hb11 ltg; have hl11_0 := Nat.le_of_lt hz11_0; have hz11_1 : w.heap.size + 1 < w11.heap.size := lt_below hb11 ltg; have hl11_1 := Nat.le_of_lt hz11_1; have hz11_2 : w1.heap.size < w11.heap.size := lt_below hb11 ltg; have hl11_2 := Nat.le_of_lt hz11_2; have hz11_3 : w5.heap.size < w11.heap.size := lt_below hb11 ltg; have hl11_3 := Nat.le_of_lt hz11_3; have hz11_4 : w6.heap.size < w11.heap.size := lt_below hb11 ltg; have hl11_4 := Nat.le_of_lt hz11_4; have hz11_5 : w6.heap.size + 1 < w11.heap.size := lt_below hb11 ltg; have hl11_5 := Nat.le_of_lt hz11_5; have hA11 := bnext (w0 := w) bgo hb11; have hs11 := hA11.size; clear hb11)
    | (go_at_call 58; refine (cC _ _ _ uc11 uq).mono ?_; rintro r w0 ⟨rfl, rfl⟩))
  go_region_with (go_at_call 32; refine (cB _ _ (uc11.next bgo)).mono ?_; rintro r w12 ⟨rfl, hb12⟩; replace hb12 := bnext (w0 := w11) bgo hb12; obtain ⟨hc12, hf12⟩ := bcell hb12; have hz12_0 : w.heap.size < w12.heap.size := lt_below hb12 ltg; have hl12_0 := Nat.le_of_lt hz12_0; have hz12_1 : w.heap.size + 1 < w12.heap.size := lt_below hb12 ltg; have hl12_1 := Nat.le_of_lt hz12_1; have hz12_2 : w1.heap.size < w12.heap.size := lt_below hb12 ltg; have hl12_2 := Nat.le_of_lt hz12_2; have hz12_3 : w5.heap.size < w12.heap.size := lt_below hb12 ltg; have hl12_3 := Nat.le_of_lt hz12_3; have hz12_4 : w6.heap.size < w12.heap.size := lt_below hb12 ltg; have hl12_4 := Nat.le_of_lt hz12_4; have hz12_5 : w6.heap.size + 1 < w12.heap.size := lt_below hb12 ltg; have hl12_5 := Nat.le_of_lt hz12_5; have hA12 := bnext (w0 := w) bgo hb12; have hs12 := hA12.size; clear hb12)
  all_goals go_wp2
  all_goals exact bodyPost_ret (by simp only [results, Tryd.results23]; go_simp) rfl ⟨rfl, bgo⟩
set_option maxHeartbeats 4000000 in
theorem vmn_db (Q d1 H4 sgv : Int) (U D M C PP lead : Nat)
    (cO : ∀ W, Calls Tryd.prog 24 #[.int .i64 n] W fun r w' => r = .returned (.tuple #[IDec n nm wd pr ex le mo pa true, .int .i64 0]) ∧ Below W.heap.size W w')
    (cS : ∀ W, Calls Tryd.prog 26 #[IDec n nm wd pr ex le mo pa true] W fun r w' => r = .returned (.tuple #[.int .i64 G, .int .i64 T, .int .i64 J]) ∧ Below W.heap.size W w')
    (h30 : (V == 30) = false) (h31 : (V == 31) = false) (h24 : ¬ V < 24)
    (cU : ∀ W, Calls Tryd.prog 53 #[A4 Rr, .int .i64 J] W fun r w' => r = .returned (.tuple #[A4 U, .int .i64 0]) ∧ Below W.heap.size W w')
    (hU : U < 2 ^ 256) (hL : bits .and .u64 (A : Int) (H - 1) = L) (hQH0 : 0 ≤ Q * H) (hQH1 : Q * H ≤ 200000) (hF : bits .or .u64 (Q * H) L = F) (hQ : bits .and .u64 (V / 2) 3 = Q) (h1 : bits .and .u64 V 1 = d1) (hd : 8 + d1 = ld) (hd0 : 0 ≤ d1) (hd1 : d1 ≤ 1)
    (cP : ∀ W, Calls Tryd.prog 31 #[.int .u64 10, .int .i64 (3 * J)] W fun r w' => ∃ v, r = .returned v ∧ NV 50000 D v w' ∧ Below W.heap.size W w')
    (cT : ∀ W v v', NV 1 lead v W → NV 50000 D v' W → Calls Tryd.prog 56 #[v, v'] W fun r w' => ∃ v, r = .returned v ∧ NT 60000 M v w' ∧ Below W.heap.size W w')
    (cA : ∀ W v v', NT 60000 M v W → NV 4 U v' W → Calls Tryd.prog 55 #[v, v'] W fun r w' => ∃ v, r = .returned v ∧ NV 70000 C v w' ∧ Below W.heap.size W w')
    (hlead : ld = (lead : Int)) (cQ : ∀ W, Calls Tryd.prog 31 #[.int .u64 10, .int .i64 pr] W fun r w' => ∃ v, r = .returned v ∧ NV 50000 PP v w' ∧ Below W.heap.size W w')
    (cC : ∀ W v v', NV 70000 C v W → NV 50000 PP v' W → Calls Tryd.prog 58 #[v, v'] W fun r w' => r = .returned (.int .i64 sgv) ∧ W = w') (hsv : ¬ 0 ≤ sgv)
    (cB : ∀ W v, NV 70000 C v W → Calls Tryd.prog 32 #[v] W fun r w' => r = .returned (A4 C) ∧ Below W.heap.size W w') :
    Calls Tryd.prog 23 #[.int .i64 n, A4 Bb] w fun r w' => r = .returned (DV 1 s false (F + le) C) ∧ Below w.heap.size w w' := by
  have hsm := cell_set_map
  have hV2 : (A : Int) / H = V := by rw [← hH]; exact hV
  unfold DV A4 at *
  go_enter Tryd.func23, Tryd.ntmps23
  go_wp2_with (first
    | (go_at_call 24; refine (cO _).mono ?_; rintro r w1 ⟨rfl, hb1⟩; obtain ⟨hc1, hf1⟩ := bcell hb1; have hz1_0 : w.heap.size < w1.heap.size := lt_below hb1 ltg; have hl1_0 := Nat.le_of_lt hz1_0; have hz1_1 : w.heap.size + 1 < w1.heap.size := lt_below hb1 ltg; have hl1_1 := Nat.le_of_lt hz1_1; have hA1 := bnext (w0 := w) bgo hb1; have hs1 := hA1.size; clear hb1)
    | (go_at_call 26; refine (cS _).mono ?_; rintro r w2 ⟨rfl, hb2⟩; obtain ⟨hc2, hf2⟩ := bcell hb2; have hz2_0 : w.heap.size < w2.heap.size := lt_below hb2 ltg; have hl2_0 := Nat.le_of_lt hz2_0; have hz2_1 : w.heap.size + 1 < w2.heap.size := lt_below hb2 ltg; have hl2_1 := Nat.le_of_lt hz2_1; have hz2_2 : w1.heap.size < w2.heap.size := lt_below hb2 ltg; have hl2_2 := Nat.le_of_lt hz2_2; have hA2 := bnext (w0 := w) bgo hb2; have hs2 := hA2.size; clear hb2)
    | (go_at_call 35; refine (cF1 _).mono ?_; rintro r w3 ⟨vA, rfl, uA, hb3⟩; clear cF1; obtain ⟨hc3, hf3⟩ := bcell hb3; have hz3_0 : w.heap.size < w3.heap.size := lt_below hb3 ltg; have hl3_0 := Nat.le_of_lt hz3_0; have hz3_1 : w.heap.size + 1 < w3.heap.size := lt_below hb3 ltg; have hl3_1 := Nat.le_of_lt hz3_1; have hz3_2 : w1.heap.size < w3.heap.size := lt_below hb3 ltg; have hl3_2 := Nat.le_of_lt hz3_2; have hA3 := bnext (w0 := w) bgo hb3; have hs3 := hA3.size; clear hb3)
    | (go_at_call 33; refine (cM1 _ _ uA).mono ?_; rintro r w0 ⟨rfl, rfl⟩; clear cM1 uA)
    | (go_at_call 35; refine (cF2 _).mono ?_; rintro r w4 ⟨vR, rfl, uR, hb4⟩; clear cF2; obtain ⟨hc4, hf4⟩ := bcell hb4; have hz4_0 : w.heap.size < w4.heap.size := lt_below hb4 ltg; have hl4_0 := Nat.le_of_lt hz4_0; have hz4_1 : w.heap.size + 1 < w4.heap.size := lt_below hb4 ltg; have hl4_1 := Nat.le_of_lt hz4_1; have hz4_2 : w1.heap.size < w4.heap.size := lt_below hb4 ltg; have hl4_2 := Nat.le_of_lt hz4_2; have hA4 := bnext (w0 := w) bgo hb4; have hs4 := hA4.size; clear hb4)
    | (go_at_call 32; refine (cB2 _ _ uR).mono ?_; rintro r w5 ⟨rfl, hb5⟩; clear cB2 uR; obtain ⟨hc5, hf5⟩ := bcell hb5; have hz5_0 : w.heap.size < w5.heap.size := lt_below hb5 ltg; have hl5_0 := Nat.le_of_lt hz5_0; have hz5_1 : w.heap.size + 1 < w5.heap.size := lt_below hb5 ltg; have hl5_1 := Nat.le_of_lt hz5_1; have hz5_2 : w1.heap.size < w5.heap.size := lt_below hb5 ltg; have hl5_2 := Nat.le_of_lt hz5_2; have hA5 := bnext (w0 := w) bgo hb5; have hs5 := hA5.size; clear hb5)
    | (go_at_call 35; refine (cF3 _).mono ?_; rintro r w6 ⟨vS, rfl, uS, hb6⟩; clear cF3; obtain ⟨hc6, hf6⟩ := bcell hb6; have hz6_0 : w.heap.size < w6.heap.size := lt_below hb6 ltg; have hl6_0 := Nat.le_of_lt hz6_0; have hz6_1 : w.heap.size + 1 < w6.heap.size := lt_below hb6 ltg; have hl6_1 := Nat.le_of_lt hz6_1; have hz6_2 : w1.heap.size < w6.heap.size := lt_below hb6 ltg; have hl6_2 := Nat.le_of_lt hz6_2; have hz6_3 : w5.heap.size < w6.heap.size := lt_below hb6 ltg; have hl6_3 := Nat.le_of_lt hz6_3; have hA6 := bnext (w0 := w) bgo hb6; have hs6 := hA6.size; clear hb6; have q62_0 : w.heap.size < w6.heap.size + 1 + 1 := (by omega); have q62_1 : w.heap.size + 1 < w6.heap.size + 1 + 1 := (by omega); have q62_2 : w1.heap.size < w6.heap.size + 1 + 1 := (by omega); have q62_3 : w5.heap.size < w6.heap.size + 1 + 1 := (by omega); have q62_4 : w6.heap.size < w6.heap.size + 1 + 1 := (by omega); have q62_5 : w6.heap.size + 1 < w6.heap.size + 1 + 1 := (by omega))
    | (go_at_call 33; refine (cM3 _ _ uS).mono ?_; rintro r w0 ⟨rfl, rfl⟩; clear cM3 uS)
    | (go_at_call 53; refine (cU _).mono ?_; rintro r w7 ⟨rfl, hb7⟩; obtain ⟨hc7, hf7⟩ := bcell hb7; have hz7_0 : w.heap.size < w7.heap.size := lt_below hb7 ltg; have hl7_0 := Nat.le_of_lt hz7_0; have hz7_1 : w.heap.size + 1 < w7.heap.size := lt_below hb7 ltg; have hl7_1 := Nat.le_of_lt hz7_1; have hz7_2 : w1.heap.size < w7.heap.size := lt_below hb7 ltg; have hl7_2 := Nat.le_of_lt hz7_2; have hz7_3 : w5.heap.size < w7.heap.size := lt_below hb7 ltg; have hl7_3 := Nat.le_of_lt hz7_3; have hz7_4 : w6.heap.size < w7.heap.size := lt_below hb7 ltg; have hl7_4 := Nat.le_of_lt hz7_4; have hz7_5 : w6.heap.size + 1 < w7.heap.size := lt_below hb7 ltg; have hl7_5 := Nat.le_of_lt hz7_5; have hA7 := bnext (w0 := w) bgo hb7; have hs7 := hA7.size; clear hb7; have q71_0 : w.heap.size < w7.heap.size + 1 := (by omega); have q71_1 : w.heap.size + 1 < w7.heap.size + 1 := (by omega); have q71_2 : w1.heap.size < w7.heap.size + 1 := (by omega); have q71_3 : w5.heap.size < w7.heap.size + 1 := (by omega); have q71_4 : w6.heap.size < w7.heap.size + 1 := (by omega); have q71_5 : w6.heap.size + 1 < w7.heap.size + 1 := (by omega); have q72_6 : w.heap.size < w7.heap.size + 1 + 1 := (by omega); have q72_7 : w.heap.size + 1 < w7.heap.size + 1 + 1 := (by omega); have q72_8 : w1.heap.size < w7.heap.size + 1 + 1 := (by omega); have q72_9 : w5.heap.size < w7.heap.size + 1 + 1 := (by omega); have q72_10 : w6.heap.size < w7.heap.size + 1 + 1 := (by omega); have q72_11 : w6.heap.size + 1 < w7.heap.size + 1 + 1 := (by omega)))
  have uT : NV 4 U (.slice (some ⟨w6.heap.size + 1, 0, none⟩) 4 4) (((put4C w7 (w6.heap.size + 1) U).alloc (.cells #[] 22)).alloc (.cells #[.int .u64 (lead : Int)] 22)) := nv_cells hU (by first | (simp; done) | (simp; omega)) (by go_simp) (by go_simp) (by go_simp) (by go_simp)
  have uL : NV 1 lead (.slice (some ⟨w7.heap.size + 1, 0, none⟩) 1 1) (((put4C w7 (w6.heap.size + 1) U).alloc (.cells #[] 22)).alloc (.cells #[.int .u64 (lead : Int)] 22)) := nv_dec (by simp) rfl (by omega)
  refine reg28 (gl := w7.heap.size + 1) (gt := w6.heap.size + 1) (lead := lead) (D := D) (M := M) (C := C) (U := U) (J := J) (fun _ _ d _ _ h => by cases d <;> exact h) rfl rfl rfl rfl hJ0 hJ1 uL uT cP cT cA ?_
  intro a1 w10 vc h16 uc hsz hdf hF10 hb10
  have ha := act_of slotsA28 8 rfl hsz hdf hF10
  rw [ha]
  simp only [slotsA28, List.foldl_cons, List.foldl_nil, Act.put, List.setIfInBounds_toArray, List.set_cons_succ, List.set_cons_zero, h16]
  generalize slot a1 146 = s146
  generalize slot a1 147 = s147
  generalize slot a1 148 = s148
  generalize slot a1 149 = s149
  generalize slot a1 150 = s150
  generalize slot a1 151 = s151
  generalize slot a1 152 = s152
  clear ha h16 hsz hdf hF10 uT uL cP cT cA
  obtain ⟨hc10, hf10⟩ := bcell hb10; have hz10_0 : w.heap.size < w10.heap.size := lt_below hb10 ltg; have hl10_0 := Nat.le_of_lt hz10_0; have hz10_1 : w.heap.size + 1 < w10.heap.size := lt_below hb10 ltg; have hl10_1 := Nat.le_of_lt hz10_1; have hz10_2 : w1.heap.size < w10.heap.size := lt_below hb10 ltg; have hl10_2 := Nat.le_of_lt hz10_2; have hz10_3 : w5.heap.size < w10.heap.size := lt_below hb10 ltg; have hl10_3 := Nat.le_of_lt hz10_3; have hz10_4 : w6.heap.size < w10.heap.size := lt_below hb10 ltg; have hl10_4 := Nat.le_of_lt hz10_4; have hz10_5 : w6.heap.size + 1 < w10.heap.size := lt_below hb10 ltg; have hl10_5 := Nat.le_of_lt hz10_5; have hA10 := bnext (w0 := w) bgo hb10; have hs10 := hA10.size; clear hb10
  go_wp2_with (first
    | (go_at_call 31; refine (cQ _).mono ?_; rintro r w11 ⟨vq, rfl, uq, hb11⟩; have uc11 := uc.next hb11; clear uc; obtain ⟨hc11, hf11⟩ := bcell hb11; have hz11_0 : w.heap.size < w11.heap.size := lt_below hb11 ltg; have hl11_0 := Nat.le_of_lt hz11_0; have hz11_1 : w.heap.size + 1 < w11.heap.size := lt_below hb11 ltg; have hl11_1 := Nat.le_of_lt hz11_1; have hz11_2 : w1.heap.size < w11.heap.size := lt_below hb11 ltg; have hl11_2 := Nat.le_of_lt hz11_2; have hz11_3 : w5.heap.size < w11.heap.size := lt_below hb11 ltg; have hl11_3 := Nat.le_of_lt hz11_3; have hz11_4 : w6.heap.size < w11.heap.size := lt_below hb11 ltg; have hl11_4 := Nat.le_of_lt hz11_4; have hz11_5 : w6.heap.size + 1 < w11.heap.size := lt_below hb11 ltg; have hl11_5 := Nat.le_of_lt hz11_5; have hA11 := bnext (w0 := w) bgo hb11; have hs11 := hA11.size; clear hb11)
    | (go_at_call 58; refine (cC _ _ _ uc11 uq).mono ?_; rintro r w0 ⟨rfl, rfl⟩))
  go_region_with (go_at_call 32; refine (cB _ _ (uc11.next bgo)).mono ?_; rintro r w12 ⟨rfl, hb12⟩; replace hb12 := bnext (w0 := w11) bgo hb12; obtain ⟨hc12, hf12⟩ := bcell hb12; have hz12_0 : w.heap.size < w12.heap.size := lt_below hb12 ltg; have hl12_0 := Nat.le_of_lt hz12_0; have hz12_1 : w.heap.size + 1 < w12.heap.size := lt_below hb12 ltg; have hl12_1 := Nat.le_of_lt hz12_1; have hz12_2 : w1.heap.size < w12.heap.size := lt_below hb12 ltg; have hl12_2 := Nat.le_of_lt hz12_2; have hz12_3 : w5.heap.size < w12.heap.size := lt_below hb12 ltg; have hl12_3 := Nat.le_of_lt hz12_3; have hz12_4 : w6.heap.size < w12.heap.size := lt_below hb12 ltg; have hl12_4 := Nat.le_of_lt hz12_4; have hz12_5 : w6.heap.size + 1 < w12.heap.size := lt_below hb12 ltg; have hl12_5 := Nat.le_of_lt hz12_5; have hA12 := bnext (w0 := w) bgo hb12; have hs12 := hA12.size; clear hb12)
  all_goals go_wp2
  all_goals exact bodyPost_ret (by simp only [results, Tryd.results23]; go_simp) rfl ⟨rfl, bgo⟩
end
end
end Go.Proofs.YtehgnckgmdkfmaaDoor
