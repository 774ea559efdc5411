/-
  Texts that the proof leans on, joined: Ue.
-/
import Derived.Test.YtmommdhnogogdaaDoorJ21
import Derived.Test.YtmommdhnogogdaaDoorJ1
set_option linter.unusedVariables false
set_option linter.unusedSectionVars false
set_option linter.unusedSimpArgs false
set_option maxRecDepth 20000
namespace Go.Proofs.YtmommdhnogogdaaDoor
open Go.RowKit
attribute [local irreducible] W4 NT NV
section
variable (n : Int) (nm : ByteArray) (wd pr ex le mo pa : Int) (dn : Bool) (d : Int) (s : Bool) (gv kv cv : Nat) (vd : Value) (exp want em ec E q : Int) (N1 D1 A Z C0 PP : Nat) (sgv : Int) (w : World)
  (hpr0 : 1 ≤ pr) (hpr1 : pr ≤ 100) (hle0 : -10000 ≤ le) (hle1 : le ≤ 10000) (hmo0 : -10000 ≤ mo) (hmo1 : mo ≤ 10000)
  (cO : ∀ W, Calls Tryd.prog 50 #[.int .i64 n] W fun r w' => r = .returned (.tuple #[IDec n nm wd pr ex le mo pa dn, .int .i64 0]) ∧ Below W.heap.size W w')
include hpr0 hpr1 hle0 hle1 hmo0 hmo1 cO
set_option maxHeartbeats 2000000 in
theorem rnd_z (x1 x2 : Int) (h1 : max want le = x1) (h2 : min x1 mo = x2) (gz cz : Nat) :
    Calls Tryd.prog 30 #[.int .i64 n, .int .i64 d, .bool s, .slice (some ⟨gz, 0, none⟩) 0 cz, vd, .int .i64 exp, .int .i64 want] w fun r w' => r = .returned (.tuple #[.agg #[.int .i64 1, .bool s, .bool false, .int .i64 x2, .int .u64 0, .int .u64 0, .int .u64 0, .int .u64 0], .int .i64 0]) ∧ Below w.heap.size w w' := by
  have hsm := cell_set_map
  go_enter Tryd.func30, Tryd.ntmps30
  go_wp2_with (go_at_call 50; refine (cO _).mono ?_; rintro r w1 ⟨rfl, hb1⟩; obtain ⟨hc1, hf1⟩ := bcell hb1; have hz1_0 : w.heap.size < w1.heap.size := lt_below hb1 ltg; have hl1_0 := Nat.le_of_lt hz1_0; have hA1 := bnext (w0 := w) bgo hb1; have hs1 := hA1.size; clear hb1)
  exact bodyPost_ret (by simp only [results, Tryd.results30]; go_simp) rfl ⟨rfl, bgo⟩
end
section
variable (n : Int) (nm : ByteArray) (wd pr ex le mo pa : Int) (dn : Bool) (d : Int) (s : Bool) (gv kv cv : Nat) (vd : Value) (exp want em ec E q : Int) (N1 D1 A Z C0 PP : Nat) (sgv : Int) (w : World)
  (hpr0 : 1 ≤ pr) (hpr1 : pr ≤ 100) (hle0 : -10000 ≤ le) (hle1 : le ≤ 10000) (hmo0 : -10000 ≤ mo) (hmo1 : mo ≤ 10000)
  (cO : ∀ W, Calls Tryd.prog 50 #[.int .i64 n] W fun r w' => r = .returned (.tuple #[IDec n nm wd pr ex le mo pa dn, .int .i64 0]) ∧ Below W.heap.size W w')
  (hkv : (0 : Int) < (kv : Int)) (hm1 : max exp (-20000) = em) (hm2 : min em 20000 = ec) (hE0 : -60000 ≤ E) (hE1 : E ≤ 60000) (hq : max le (E - pr + 1) = q) (hq0 : -70000 ≤ q) (hq1 : q ≤ 70000)
  (cS1 : ∀ W, Below w.heap.size w W → Calls Tryd.prog 13 #[.slice (some ⟨gv, 0, none⟩) kv cv, vd, .int .u64 10, .int .i64 ec] W fun r w' => ∃ a b, r = .returned (.tuple #[a, b]) ∧ NT 7000 N1 a w' ∧ NT 7000 D1 b w' ∧ Below W.heap.size W w')
  (cT : ∀ W a b, NT 7000 N1 a W → NT 7000 D1 b W → Calls Tryd.prog 51 #[a, b] W fun r w' => r = .returned (.int .i64 E) ∧ Below W.heap.size W w')
  (cS2 : ∀ W a b, NT 7000 N1 a W → NT 7000 D1 b W → Calls Tryd.prog 13 #[a, b, .int .u64 10, .int .i64 (-q)] W fun r w' => ∃ a' b', r = .returned (.tuple #[a', b']) ∧ NT 7000 A a' w' ∧ NT 7000 Z b' w' ∧ Below W.heap.size W w')
  (cP : ∀ W, Calls Tryd.prog 53 #[.int .u64 10, .int .i64 pr] W fun r w' => ∃ v, r = .returned v ∧ NT 4000 PP v w' ∧ Below W.heap.size W w')
  (cC : ∀ W v v', NV 41002 C0 v W → NT 4000 PP v' W → Calls Tryd.prog 15 #[v, v'] W fun r w' => r = .returned (.int .i64 sgv) ∧ W = w')
include hpr0 hpr1 hle0 hle1 hmo0 hmo1 cO hkv hm1 hm2 hE0 hE1 hq hq0 hq1 cS1 cT cS2 cP cC
set_option maxHeartbeats 4000000 in
theorem rnd_ni (X : Bool) (P1 ML U : Nat) (x2 : Int) (Fl : Int)
    (cW : ∀ W a b, NT 7000 A a W → NT 7000 Z b W → Calls Tryd.prog 52 #[.int .i64 d, .bool s, a, b] W fun r w' => ∃ v, r = .returned (.tuple #[v, .bool X]) ∧ NV 41002 C0 v w' ∧ Below W.heap.size W w') (hsv : ¬ 0 ≤ sgv)
    (hmo : mo < q)
    (cF : ∀ W, Calls Tryd.prog 54 #[.int .i64 d, .bool s] W fun r w' => r = .returned (.bool true) ∧ W = w') :
    Calls Tryd.prog 30 #[.int .i64 n, .int .i64 d, .bool s, .slice (some ⟨gv, 0, none⟩) kv cv, vd, .int .i64 exp, .int .i64 want] w fun r w' => r = .returned (.tuple #[.agg #[.int .i64 2, .bool s, .bool false, .int .i64 0, .int .u64 0, .int .u64 0, .int .u64 0, .int .u64 0], .int .i64 10]) ∧ Below w.heap.size w w' := by
  have hsm := cell_set_map
  have hq2 : -(-q) = q := by omega
  (try unfold DV at *)
  (try unfold A4 at *)
  go_enter Tryd.func30, Tryd.ntmps30
  go_wp2_with (first
    | (go_at_call 50; refine (cO _).mono ?_; rintro r w1 ⟨rfl, hb1⟩; obtain ⟨hc1, hf1⟩ := bcell hb1; have hz1_0 : w.heap.size < w1.heap.size := lt_below hb1 ltg; have hl1_0 := Nat.le_of_lt hz1_0; have hA1 := bnext (w0 := w) bgo hb1; have hs1 := hA1.size; clear hb1; have q1a : w.heap.size < w1.heap.size + 1 + 1 := (by omega); have q1b : w1.heap.size < w1.heap.size + 1 + 1 := (by omega))
    | (go_at_call 13; refine (cS1 _ bgo).mono ?_; rintro r w2 ⟨a1, b1, rfl, uA, uB, hb2⟩; clear cS1; obtain ⟨hc2, hf2⟩ := bcell hb2; have hz2_0 : w.heap.size < w2.heap.size := lt_below hb2 ltg; have hl2_0 := Nat.le_of_lt hz2_0; have hz2_1 : w1.heap.size < w2.heap.size := lt_below hb2 ltg; have hl2_1 := Nat.le_of_lt hz2_1; have hz2_2 : w1.heap.size + 1 < w2.heap.size := lt_below hb2 ltg; have hl2_2 := Nat.le_of_lt hz2_2; have hA2 := bnext (w0 := w) bgo hb2; have hs2 := hA2.size; clear hb2)
    | (go_at_call 51; refine (cT _ _ _ uA uB).mono ?_; rintro r w3 ⟨rfl, hb3⟩; have uA3 := uA.next hb3; have uB3 := uB.next hb3; clear cT uA uB; obtain ⟨hc3, hf3⟩ := bcell hb3; have hz3_0 : w.heap.size < w3.heap.size := lt_below hb3 ltg; have hl3_0 := Nat.le_of_lt hz3_0; have hz3_1 : w1.heap.size < w3.heap.size := lt_below hb3 ltg; have hl3_1 := Nat.le_of_lt hz3_1; have hz3_2 : w1.heap.size + 1 < w3.heap.size := lt_below hb3 ltg; have hl3_2 := Nat.le_of_lt hz3_2; have hA3 := bnext (w0 := w) bgo hb3; have hs3 := hA3.size; clear hb3)
    | (go_at_call 13; refine (cS2 _ _ _ uA3 uB3).mono ?_; rintro r w4 ⟨a2, b2, rfl, uC, uD, hb4⟩; clear cS2 uA3 uB3; obtain ⟨hc4, hf4⟩ := bcell hb4; have hz4_0 : w.heap.size < w4.heap.size := lt_below hb4 ltg; have hl4_0 := Nat.le_of_lt hz4_0; have hz4_1 : w1.heap.size < w4.heap.size := lt_below hb4 ltg; have hl4_1 := Nat.le_of_lt hz4_1; have hz4_2 : w1.heap.size + 1 < w4.heap.size := lt_below hb4 ltg; have hl4_2 := Nat.le_of_lt hz4_2; have hA4 := bnext (w0 := w) bgo hb4; have hs4 := hA4.size; clear hb4)
    | (go_at_call 52; refine (cW _ _ _ uC uD).mono ?_; rintro r w5 ⟨vc, rfl, uE, hb5⟩; clear cW uC uD; obtain ⟨hc5, hf5⟩ := bcell hb5; have hz5_0 : w.heap.size < w5.heap.size := lt_below hb5 ltg; have hl5_0 := Nat.le_of_lt hz5_0; have hz5_1 : w1.heap.size < w5.heap.size := lt_below hb5 ltg; have hl5_1 := Nat.le_of_lt hz5_1; have hz5_2 : w1.heap.size + 1 < w5.heap.size := lt_below hb5 ltg; have hl5_2 := Nat.le_of_lt hz5_2; have hA5 := bnext (w0 := w) bgo hb5; have hs5 := hA5.size; clear hb5)
    | (go_at_call 53; refine (cP _).mono ?_; rintro r w6 ⟨vp, rfl, uP, hb6⟩; have uE6 := uE.next hb6; clear cP uE; obtain ⟨hc6, hf6⟩ := bcell hb6; have hz6_0 : w.heap.size < w6.heap.size := lt_below hb6 ltg; have hl6_0 := Nat.le_of_lt hz6_0; have hz6_1 : w1.heap.size < w6.heap.size := lt_below hb6 ltg; have hl6_1 := Nat.le_of_lt hz6_1; have hz6_2 : w1.heap.size + 1 < w6.heap.size := lt_below hb6 ltg; have hl6_2 := Nat.le_of_lt hz6_2; have hA6 := bnext (w0 := w) bgo hb6; have hs6 := hA6.size; clear hb6)
    | (go_at_call 15; refine (cC _ _ _ uE6 uP).mono ?_; rintro r w0 ⟨rfl, rfl⟩; clear cC)
    | (go_at_call 54; refine (cF _).mono ?_; rintro r w0 ⟨rfl, rfl⟩))
  exact bodyPost_ret (by simp only [results, Tryd.results30]; go_simp) rfl ⟨rfl, bgo⟩
set_option maxHeartbeats 4000000 in
theorem rnd_nm (X : Bool) (P1 ML U : Nat) (x2 : Int) (Fl : Int)
    (cW : ∀ W a b, NT 7000 A a W → NT 7000 Z b W → Calls Tryd.prog 52 #[.int .i64 d, .bool s, a, b] W fun r w' => ∃ v, r = .returned (.tuple #[v, .bool X]) ∧ NV 41002 C0 v w' ∧ Below W.heap.size W w') (hsv : ¬ 0 ≤ sgv)
    (hmo : mo < q)
    (cF : ∀ W, Calls Tryd.prog 54 #[.int .i64 d, .bool s] W fun r w' => r = .returned (.bool false) ∧ W = w')
    (cL : ∀ W v v', NT 4000 PP v W → NV 1 1 v' W → Calls Tryd.prog 56 #[v, v'] W fun r w' => ∃ v, r = .returned v ∧ NV 4000 ML v w' ∧ Below W.heap.size W w')
    (cB : ∀ W v, NV 4000 ML v W → Calls Tryd.prog 55 #[v] W fun r w' => r = .returned (A4 ML) ∧ Below W.heap.size W w') :
    Calls Tryd.prog 30 #[.int .i64 n, .int .i64 d, .bool s, .slice (some ⟨gv, 0, none⟩) kv cv, vd, .int .i64 exp, .int .i64 want] w fun r w' => r = .returned (.tuple #[DV 1 s false mo ML, .int .i64 10]) ∧ Below w.heap.size w w' := by
  have hsm := cell_set_map
  have hq2 : -(-q) = q := by omega
  (try unfold DV at *)
  (try unfold A4 at *)
  go_enter Tryd.func30, Tryd.ntmps30
  go_wp2_with (first
    | (go_at_call 50; refine (cO _).mono ?_; rintro r w1 ⟨rfl, hb1⟩; obtain ⟨hc1, hf1⟩ := bcell hb1; have hz1_0 : w.heap.size < w1.heap.size := lt_below hb1 ltg; have hl1_0 := Nat.le_of_lt hz1_0; have hA1 := bnext (w0 := w) bgo hb1; have hs1 := hA1.size; clear hb1; have q1a : w.heap.size < w1.heap.size + 1 + 1 := (by omega); have q1b : w1.heap.size < w1.heap.size + 1 + 1 := (by omega))
    | (go_at_call 13; refine (cS1 _ bgo).mono ?_; rintro r w2 ⟨a1, b1, rfl, uA, uB, hb2⟩; clear cS1; obtain ⟨hc2, hf2⟩ := bcell hb2; have hz2_0 : w.heap.size < w2.heap.size := lt_below hb2 ltg; have hl2_0 := Nat.le_of_lt hz2_0; have hz2_1 : w1.heap.size < w2.heap.size := lt_below hb2 ltg; have hl2_1 := Nat.le_of_lt hz2_1; have hz2_2 : w1.heap.size + 1 < w2.heap.size := lt_below hb2 ltg; have hl2_2 := Nat.le_of_lt hz2_2; have hA2 := bnext (w0 := w) bgo hb2; have hs2 := hA2.size; clear hb2)
    | (go_at_call 51; refine (cT _ _ _ uA uB).mono ?_; rintro r w3 ⟨rfl, hb3⟩; have uA3 := uA.next hb3; have uB3 := uB.next hb3; clear cT uA uB; obtain ⟨hc3, hf3⟩ := bcell hb3; have hz3_0 : w.heap.size < w3.heap.size := lt_below hb3 ltg; have hl3_0 := Nat.le_of_lt hz3_0; have hz3_1 : w1.heap.size < w3.heap.size := lt_below hb3 ltg; have hl3_1 := Nat.le_of_lt hz3_1; have hz3_2 : w1.heap.size + 1 < w3.heap.size := lt_below hb3 ltg; have hl3_2 := Nat.le_of_lt hz3_2; have hA3 := bnext (w0 := w) bgo hb3; have hs3 := hA3.size; clear hb3)
    | (go_at_call 13; refine (cS2 _ _ _ uA3 uB3).mono ?_; rintro r w4 ⟨a2, b2, rfl, uC, uD, hb4⟩; clear cS2 uA3 uB3; obtain ⟨hc4, hf4⟩ := bcell hb4; have hz4_0 : w.heap.size < w4.heap.size := lt_below hb4 ltg; have hl4_0 := Nat.le_of_lt hz4_0; have hz4_1 : w1.heap.size < w4.heap.size := lt_below hb4 ltg; have hl4_1 := Nat.le_of_lt hz4_1; have hz4_2 : w1.heap.size + 1 < w4.heap.size := lt_below hb4 ltg; have hl4_2 := Nat.le_of_lt hz4_2; have hA4 := bnext (w0 := w) bgo hb4; have hs4 := hA4.size; clear hb4)
    | (go_at_call 52; refine (cW _ _ _ uC uD).mono ?_; rintro r w5 ⟨vc, rfl, uE, hb5⟩; clear cW uC uD; obtain ⟨hc5, hf5⟩ := bcell hb5; have hz5_0 : w.heap.size < w5.heap.size := lt_below hb5 ltg; have hl5_0 := Nat.le_of_lt hz5_0; have hz5_1 : w1.heap.size < w5.heap.size := lt_below hb5 ltg; have hl5_1 := Nat.le_of_lt hz5_1; have hz5_2 : w1.heap.size + 1 < w5.heap.size := lt_below hb5 ltg; have hl5_2 := Nat.le_of_lt hz5_2; have hA5 := bnext (w0 := w) bgo hb5; have hs5 := hA5.size; clear hb5)
    | (go_at_call 53; refine (cP _).mono ?_; rintro r w6 ⟨vp, rfl, uP, hb6⟩; have uE6 := uE.next hb6; clear cP uE; obtain ⟨hc6, hf6⟩ := bcell hb6; have hz6_0 : w.heap.size < w6.heap.size := lt_below hb6 ltg; have hl6_0 := Nat.le_of_lt hz6_0; have hz6_1 : w1.heap.size < w6.heap.size := lt_below hb6 ltg; have hl6_1 := Nat.le_of_lt hz6_1; have hz6_2 : w1.heap.size + 1 < w6.heap.size := lt_below hb6 ltg; have hl6_2 := Nat.le_of_lt hz6_2; have hA6 := bnext (w0 := w) bgo hb6; have hs6 := hA6.size; clear hb6)
    | (go_at_call 15; refine (cC _ _ _ uE6 uP).mono ?_; rintro r w0 ⟨rfl, rfl⟩; clear cC)
    | (go_at_call 54; refine (cF _).mono ?_; rintro r w0 ⟨rfl, rfl⟩))
  go_region_with (first
    | (go_at_call 56; refine (cL _ _ _ (uP.next bgo) ((nv_dec (W := w6) (g := w6.heap.size) (V := 1) (vi := 1) rfl rfl (by decide)).next bgo)).mono ?_; rintro r w8 ⟨v8, rfl, u8, hb8⟩; replace hb8 := bnext (w0 := w6) bgo hb8; obtain ⟨hc8, hf8⟩ := bcell hb8; have hz8_0 : w.heap.size < w8.heap.size := lt_below hb8 ltg; have hl8_0 := Nat.le_of_lt hz8_0; have hz8_1 : w1.heap.size < w8.heap.size := lt_below hb8 ltg; have hl8_1 := Nat.le_of_lt hz8_1; have hz8_2 : w1.heap.size + 1 < w8.heap.size := lt_below hb8 ltg; have hl8_2 := Nat.le_of_lt hz8_2; have hA8 := bnext (w0 := w) bgo hb8; have hs8 := hA8.size; clear hb8)
    | (go_at_call 55; refine (cB _ _ u8).mono ?_; rintro r w9 ⟨rfl, hb9⟩; obtain ⟨hc9, hf9⟩ := bcell hb9; have hz9_0 : w.heap.size < w9.heap.size := lt_below hb9 ltg; have hl9_0 := Nat.le_of_lt hz9_0; have hz9_1 : w1.heap.size < w9.heap.size := lt_below hb9 ltg; have hl9_1 := Nat.le_of_lt hz9_1; have hz9_2 : w1.heap.size + 1 < w9.heap.size := lt_below hb9 ltg; have hl9_2 := Nat.le_of_lt hz9_2; have hA9 := bnext (w0 := w) bgo hb9; have hs9 := hA9.size; clear hb9))
  all_goals go_wp2
  all_goals exact bodyPost_ret (by simp only [results, Tryd.results30]; go_simp) rfl ⟨rfl, bgo⟩
set_option maxHeartbeats 4000000 in
theorem rnd_nx (X : Bool) (P1 ML U : Nat) (x2 : Int) (Fl : Int)
    (cW : ∀ W a b, NT 7000 A a W → NT 7000 Z b W → Calls Tryd.prog 52 #[.int .i64 d, .bool s, a, b] W fun r w' => ∃ v, r = .returned (.tuple #[v, .bool true]) ∧ NT 41000 C0 v w' ∧ Below W.heap.size W w') (hsv : ¬ 0 ≤ sgv)
    (hmo : ¬ mo < q)
    (cM : ∀ W v, NT 41000 C0 v W → Calls Tryd.prog 57 #[v, .int .i64 q, .int .i64 want, IDec n nm wd pr ex le mo pa dn] W fun r w' => ∃ v, r = .returned (.tuple #[v, .int .i64 x2]) ∧ NT 41000 U v w' ∧ Below W.heap.size W w')
    (cB : ∀ W v, NT 41000 U v W → Calls Tryd.prog 55 #[v] W fun r w' => r = .returned (A4 U) ∧ Below W.heap.size W w') :
    Calls Tryd.prog 30 #[.int .i64 n, .int .i64 d, .bool s, .slice (some ⟨gv, 0, none⟩) kv cv, vd, .int .i64 exp, .int .i64 want] w fun r w' => r = .returned (.tuple #[DV 1 s false x2 U, .int .i64 0]) ∧ Below w.heap.size w w' := by
  have hsm := cell_set_map
  have hq2 : -(-q) = q := by omega
  (try unfold DV at *)
  (try unfold A4 at *)
  go_enter Tryd.func30, Tryd.ntmps30
  go_wp2_with (first
    | (go_at_call 50; refine (cO _).mono ?_; rintro r w1 ⟨rfl, hb1⟩; obtain ⟨hc1, hf1⟩ := bcell hb1; have hz1_0 : w.heap.size < w1.heap.size := lt_below hb1 ltg; have hl1_0 := Nat.le_of_lt hz1_0; have hA1 := bnext (w0 := w) bgo hb1; have hs1 := hA1.size; clear hb1; have q1a : w.heap.size < w1.heap.size + 1 + 1 := (by omega); have q1b : w1.heap.size < w1.heap.size + 1 + 1 := (by omega))
    | (go_at_call 13; refine (cS1 _ bgo).mono ?_; rintro r w2 ⟨a1, b1, rfl, uA, uB, hb2⟩; clear cS1; obtain ⟨hc2, hf2⟩ := bcell hb2; have hz2_0 : w.heap.size < w2.heap.size := lt_below hb2 ltg; have hl2_0 := Nat.le_of_lt hz2_0; have hz2_1 : w1.heap.size < w2.heap.size := lt_below hb2 ltg; have hl2_1 := Nat.le_of_lt hz2_1; have hz2_2 : w1.heap.size + 1 < w2.heap.size := lt_below hb2 ltg; have hl2_2 := Nat.le_of_lt hz2_2; have hA2 := bnext (w0 := w) bgo hb2; have hs2 := hA2.size; clear hb2)
    | (go_at_call 51; refine (cT _ _ _ uA uB).mono ?_; rintro r w3 ⟨rfl, hb3⟩; have uA3 := uA.next hb3; have uB3 := uB.next hb3; clear cT uA uB; obtain ⟨hc3, hf3⟩ := bcell hb3; have hz3_0 : w.heap.size < w3.heap.size := lt_below hb3 ltg; have hl3_0 := Nat.le_of_lt hz3_0; have hz3_1 : w1.heap.size < w3.heap.size := lt_below hb3 ltg; have hl3_1 := Nat.le_of_lt hz3_1; have hz3_2 : w1.heap.size + 1 < w3.heap.size := lt_below hb3 ltg; have hl3_2 := Nat.le_of_lt hz3_2; have hA3 := bnext (w0 := w) bgo hb3; have hs3 := hA3.size; clear hb3)
    | (go_at_call 13; refine (cS2 _ _ _ uA3 uB3).mono ?_; rintro r w4 ⟨a2, b2, rfl, uC, uD, hb4⟩; clear cS2 uA3 uB3; obtain ⟨hc4, hf4⟩ := bcell hb4; have hz4_0 : w.heap.size < w4.heap.size := lt_below hb4 ltg; have hl4_0 := Nat.le_of_lt hz4_0; have hz4_1 : w1.heap.size < w4.heap.size := lt_below hb4 ltg; have hl4_1 := Nat.le_of_lt hz4_1; have hz4_2 : w1.heap.size + 1 < w4.heap.size := lt_below hb4 ltg; have hl4_2 := Nat.le_of_lt hz4_2; have hA4 := bnext (w0 := w) bgo hb4; have hs4 := hA4.size; clear hb4)
    | (go_at_call 52; refine (cW _ _ _ uC uD).mono ?_; rintro r w5 ⟨vc, rfl, uE, hb5⟩; clear cW uC uD; obtain ⟨hc5, hf5⟩ := bcell hb5; have hz5_0 : w.heap.size < w5.heap.size := lt_below hb5 ltg; have hl5_0 := Nat.le_of_lt hz5_0; have hz5_1 : w1.heap.size < w5.heap.size := lt_below hb5 ltg; have hl5_1 := Nat.le_of_lt hz5_1; have hz5_2 : w1.heap.size + 1 < w5.heap.size := lt_below hb5 ltg; have hl5_2 := Nat.le_of_lt hz5_2; have hA5 := bnext (w0 := w) bgo hb5; have hs5 := hA5.size; clear hb5)
    | (go_at_call 53; refine (cP _).mono ?_; rintro r w6 ⟨vp, rfl, uP, hb6⟩; have uE6 := uE.next hb6; clear cP uE; obtain ⟨hc6, hf6⟩ := bcell hb6; have hz6_0 : w.heap.size < w6.heap.size := lt_below hb6 ltg; have hl6_0 := Nat.le_of_lt hz6_0; have hz6_1 : w1.heap.size < w6.heap.size := lt_below hb6 ltg; have hl6_1 := Nat.le_of_lt hz6_1; have hz6_2 : w1.heap.size + 1 < w6.heap.size := lt_below hb6 ltg; have hl6_2 := Nat.le_of_lt hz6_2; have hA6 := bnext (w0 := w) bgo hb6; have hs6 := hA6.size; clear hb6)
    | (go_at_call 15; refine (cC _ _ _ (uE6.nv.more (by decide)) uP).mono ?_; rintro r w0 ⟨rfl, rfl⟩; clear cC)
    | (go_at_call 57; refine (cM _ _ uE6).mono ?_; rintro r w8 ⟨v8, rfl, u8, hb8⟩; clear cM; obtain ⟨hc8, hf8⟩ := bcell hb8; have hz8_0 : w.heap.size < w8.heap.size := lt_below hb8 ltg; have hl8_0 := Nat.le_of_lt hz8_0; have hz8_1 : w1.heap.size < w8.heap.size := lt_below hb8 ltg; have hl8_1 := Nat.le_of_lt hz8_1; have hz8_2 : w1.heap.size + 1 < w8.heap.size := lt_below hb8 ltg; have hl8_2 := Nat.le_of_lt hz8_2; have hA8 := bnext (w0 := w) bgo hb8; have hs8 := hA8.size; clear hb8)
    | (go_at_call 55; refine (cB _ _ u8).mono ?_; rintro r w9 ⟨rfl, hb9⟩; obtain ⟨hc9, hf9⟩ := bcell hb9; have hz9_0 : w.heap.size < w9.heap.size := lt_below hb9 ltg; have hl9_0 := Nat.le_of_lt hz9_0; have hz9_1 : w1.heap.size < w9.heap.size := lt_below hb9 ltg; have hl9_1 := Nat.le_of_lt hz9_1; have hz9_2 : w1.heap.size + 1 < w9.heap.size := lt_below hb9 ltg; have hl9_2 := Nat.le_of_lt hz9_2; have hA9 := bnext (w0 := w) bgo hb9; have hs9 := hA9.size; clear hb9))
  exact bodyPost_ret (by simp only [results, Tryd.results30]; go_simp) rfl ⟨rfl, bgo⟩
set_option maxHeartbeats 4000000 in
theorem rnd_ns (X : Bool) (P1 ML U : Nat) (x2 : Int) (Fl : Int)
    (cW : ∀ W a b, NT 7000 A a W → NT 7000 Z b W → Calls Tryd.prog 52 #[.int .i64 d, .bool s, a, b] W fun r w' => ∃ v, r = .returned (.tuple #[v, .bool false]) ∧ NV 41002 C0 v w' ∧ Below W.heap.size W w') (hsv : ¬ 0 ≤ sgv)
    (hmo : ¬ mo < q)
    (cB : ∀ W v, NV 41002 C0 v W → Calls Tryd.prog 55 #[v] W fun r w' => r = .returned (A4 C0) ∧ Below W.heap.size W w') (hlow : E < le + pr - 1) :
    Calls Tryd.prog 30 #[.int .i64 n, .int .i64 d, .bool s, .slice (some ⟨gv, 0, none⟩) kv cv, vd, .int .i64 exp, .int .i64 want] w fun r w' => r = .returned (.tuple #[DV 1 s false (q) C0, .int .i64 12]) ∧ Below w.heap.size w w' := by
  have hsm := cell_set_map
  have hq2 : -(-q) = q := by omega
  (try unfold DV at *)
  (try unfold A4 at *)
  go_enter Tryd.func30, Tryd.ntmps30
  go_wp2_with (first
    | (go_at_call 50; refine (cO _).mono ?_; rintro r w1 ⟨rfl, hb1⟩; obtain ⟨hc1, hf1⟩ := bcell hb1; have hz1_0 : w.heap.size < w1.heap.size := lt_below hb1 ltg; have hl1_0 := Nat.le_of_lt hz1_0; have hA1 := bnext (w0 := w) bgo hb1; have hs1 := hA1.size; clear hb1; have q1a : w.heap.size < w1.heap.size + 1 + 1 := (by omega); have q1b : w1.heap.size < w1.heap.size + 1 + 1 := (by omega))
    | (go_at_call 13; refine (cS1 _ bgo).mono ?_; rintro r w2 ⟨a1, b1, rfl, uA, uB, hb2⟩; clear cS1; obtain ⟨hc2, hf2⟩ := bcell hb2; have hz2_0 : w.heap.size < w2.heap.size := lt_below hb2 ltg; have hl2_0 := Nat.le_of_lt hz2_0; have hz2_1 : w1.heap.size < w2.heap.size := lt_below hb2 ltg; have hl2_1 := Nat.le_of_lt hz2_1; have hz2_2 : w1.heap.size + 1 < w2.heap.size := lt_below hb2 ltg; have hl2_2 := Nat.le_of_lt hz2_2; have hA2 := bnext (w0 := w) bgo hb2; have hs2 := hA2.size; clear hb2)
    | (go_at_call 51; refine (cT _ _ _ uA uB).mono ?_; rintro r w3 ⟨rfl, hb3⟩; have uA3 := uA.next hb3; have uB3 := uB.next hb3; clear cT uA uB; obtain ⟨hc3, hf3⟩ := bcell hb3; have hz3_0 : w.heap.size < w3.heap.size := lt_below hb3 ltg; have hl3_0 := Nat.le_of_lt hz3_0; have hz3_1 : w1.heap.size < w3.heap.size := lt_below hb3 ltg; have hl3_1 := Nat.le_of_lt hz3_1; have hz3_2 : w1.heap.size + 1 < w3.heap.size := lt_below hb3 ltg; have hl3_2 := Nat.le_of_lt hz3_2; have hA3 := bnext (w0 := w) bgo hb3; have hs3 := hA3.size; clear hb3)
    | (go_at_call 13; refine (cS2 _ _ _ uA3 uB3).mono ?_; rintro r w4 ⟨a2, b2, rfl, uC, uD, hb4⟩; clear cS2 uA3 uB3; obtain ⟨hc4, hf4⟩ := bcell hb4; have hz4_0 : w.heap.size < w4.heap.size := lt_below hb4 ltg; have hl4_0 := Nat.le_of_lt hz4_0; have hz4_1 : w1.heap.size < w4.heap.size := lt_below hb4 ltg; have hl4_1 := Nat.le_of_lt hz4_1; have hz4_2 : w1.heap.size + 1 < w4.heap.size := lt_below hb4 ltg; have hl4_2 := Nat.le_of_lt hz4_2; have hA4 := bnext (w0 := w) bgo hb4; have hs4 := hA4.size; clear hb4)
    | (go_at_call 52; refine (cW _ _ _ uC uD).mono ?_; rintro r w5 ⟨vc, rfl, uE, hb5⟩; clear cW uC uD; obtain ⟨hc5, hf5⟩ := bcell hb5; have hz5_0 : w.heap.size < w5.heap.size := lt_below hb5 ltg; have hl5_0 := Nat.le_of_lt hz5_0; have hz5_1 : w1.heap.size < w5.heap.size := lt_below hb5 ltg; have hl5_1 := Nat.le_of_lt hz5_1; have hz5_2 : w1.heap.size + 1 < w5.heap.size := lt_below hb5 ltg; have hl5_2 := Nat.le_of_lt hz5_2; have hA5 := bnext (w0 := w) bgo hb5; have hs5 := hA5.size; clear hb5)
    | (go_at_call 53; refine (cP _).mono ?_; rintro r w6 ⟨vp, rfl, uP, hb6⟩; have uE6 := uE.next hb6; clear cP uE; obtain ⟨hc6, hf6⟩ := bcell hb6; have hz6_0 : w.heap.size < w6.heap.size := lt_below hb6 ltg; have hl6_0 := Nat.le_of_lt hz6_0; have hz6_1 : w1.heap.size < w6.heap.size := lt_below hb6 ltg; have hl6_1 := Nat.le_of_lt hz6_1; have hz6_2 : w1.heap.size + 1 < w6.heap.size := lt_below hb6 ltg; have hl6_2 := Nat.le_of_lt hz6_2; have hA6 := bnext (w0 := w) bgo hb6; have hs6 := hA6.size; clear hb6)
    | (go_at_call 15; refine (cC _ _ _ uE6 uP).mono ?_; rintro r w0 ⟨rfl, rfl⟩; clear cC)
    | (go_at_call 55; refine (cB _ _ uE6).mono ?_; rintro r w9 ⟨rfl, hb9⟩; obtain ⟨hc9, hf9⟩ := bcell hb9; have hz9_0 : w.heap.size < w9.heap.size := lt_below hb9 ltg; have hl9_0 := Nat.le_of_lt hz9_0; have hz9_1 : w1.heap.size < w9.heap.size := lt_below hb9 ltg; have hl9_1 := Nat.le_of_lt hz9_1; have hz9_2 : w1.heap.size + 1 < w9.heap.size := lt_below hb9 ltg; have hl9_2 := Nat.le_of_lt hz9_2; have hA9 := bnext (w0 := w) bgo hb9; have hs9 := hA9.size; clear hb9))
  exact bodyPost_ret (by simp only [results, Tryd.results30]; go_simp) rfl ⟨rfl, bgo⟩
set_option maxHeartbeats 4000000 in
theorem rnd_nr (X : Bool) (P1 ML U : Nat) (x2 : Int) (Fl : Int)
    (cW : ∀ W a b, NT 7000 A a W → NT 7000 Z b W → Calls Tryd.prog 52 #[.int .i64 d, .bool s, a, b] W fun r w' => ∃ v, r = .returned (.tuple #[v, .bool false]) ∧ NV 41002 C0 v w' ∧ Below W.heap.size W w') (hsv : ¬ 0 ≤ sgv)
    (hmo : ¬ mo < q)
    (cB : ∀ W v, NV 41002 C0 v W → Calls Tryd.prog 55 #[v] W fun r w' => r = .returned (A4 C0) ∧ Below W.heap.size W w') (hlow : ¬ E < le + pr - 1) :
    Calls Tryd.prog 30 #[.int .i64 n, .int .i64 d, .bool s, .slice (some ⟨gv, 0, none⟩) kv cv, vd, .int .i64 exp, .int .i64 want] w fun r w' => r = .returned (.tuple #[DV 1 s false (q) C0, .int .i64 8]) ∧ Below w.heap.size w w' := by
  have hsm := cell_set_map
  have hq2 : -(-q) = q := by omega
  (try unfold DV at *)
  (try unfold A4 at *)
  go_enter Tryd.func30, Tryd.ntmps30
  go_wp2_with (first
    | (go_at_call 50; refine (cO _).mono ?_; rintro r w1 ⟨rfl, hb1⟩; obtain ⟨hc1, hf1⟩ := bcell hb1; have hz1_0 : w.heap.size < w1.heap.size := lt_below hb1 ltg; have hl1_0 := Nat.le_of_lt hz1_0; have hA1 := bnext (w0 := w) bgo hb1; have hs1 := hA1.size; clear hb1; have q1a : w.heap.size < w1.heap.size + 1 + 1 := (by omega); have q1b : w1.heap.size < w1.heap.size + 1 + 1 := (by omega))
    | (go_at_call 13; refine (cS1 _ bgo).mono ?_; rintro r w2 ⟨a1, b1, rfl, uA, uB, hb2⟩; clear cS1; obtain ⟨hc2, hf2⟩ := bcell hb2; have hz2_0 : w.heap.size < w2.heap.size := lt_below hb2 ltg; have hl2_0 := Nat.le_of_lt hz2_0; have hz2_1 : w1.heap.size < w2.heap.size := lt_below hb2 ltg; have hl2_1 := Nat.le_of_lt hz2_1; have hz2_2 : w1.heap.size + 1 < w2.heap.size := lt_below hb2 ltg; have hl2_2 := Nat.le_of_lt hz2_2; have hA2 := bnext (w0 := w) bgo hb2; have hs2 := hA2.size; clear hb2)
    | (go_at_call 51; refine (cT _ _ _ uA uB).mono ?_; rintro r w3 ⟨rfl, hb3⟩; have uA3 := uA.next hb3; have uB3 := uB.next hb3; clear cT uA uB; obtain ⟨hc3, hf3⟩ := bcell hb3; have hz3_0 : w.heap.size < w3.heap.size := lt_below hb3 ltg; have hl3_0 := Nat.le_of_lt hz3_0; have hz3_1 : w1.heap.size < w3.heap.size := lt_below hb3 ltg; have hl3_1 := Nat.le_of_lt hz3_1; have hz3_2 : w1.heap.size + 1 < w3.heap.size := lt_below hb3 ltg; have hl3_2 := Nat.le_of_lt hz3_2; have hA3 := bnext (w0 := w) bgo hb3; have hs3 := hA3.size; clear hb3)
    | (go_at_call 13; refine (cS2 _ _ _ uA3 uB3).mono ?_; rintro r w4 ⟨a2, b2, rfl, uC, uD, hb4⟩; clear cS2 uA3 uB3; obtain ⟨hc4, hf4⟩ := bcell hb4; have hz4_0 : w.heap.size < w4.heap.size := lt_below hb4 ltg; have hl4_0 := Nat.le_of_lt hz4_0; have hz4_1 : w1.heap.size < w4.heap.size := lt_below hb4 ltg; have hl4_1 := Nat.le_of_lt hz4_1; have hz4_2 : w1.heap.size + 1 < w4.heap.size := lt_below hb4 ltg; have hl4_2 := Nat.le_of_lt hz4_2; have hA4 := bnext (w0 := w) bgo hb4; have hs4 := hA4.size; clear hb4)
    | (go_at_call 52; refine (cW _ _ _ uC uD).mono ?_; rintro r w5 ⟨vc, rfl, uE, hb5⟩; clear cW uC uD; obtain ⟨hc5, hf5⟩ := bcell hb5; have hz5_0 : w.heap.size < w5.heap.size := lt_below hb5 ltg; have hl5_0 := Nat.le_of_lt hz5_0; have hz5_1 : w1.heap.size < w5.heap.size := lt_below hb5 ltg; have hl5_1 := Nat.le_of_lt hz5_1; have hz5_2 : w1.heap.size + 1 < w5.heap.size := lt_below hb5 ltg; have hl5_2 := Nat.le_of_lt hz5_2; have hA5 := bnext (w0 := w) bgo hb5; have hs5 := hA5.size; clear hb5)
    | (go_at_call 53; refine (cP _).mono ?_; rintro r w6 ⟨vp, rfl, uP, hb6⟩; have uE6 := uE.next hb6; clear cP uE; obtain ⟨hc6, hf6⟩ := bcell hb6; have hz6_0 : w.heap.size < w6.heap.size := lt_below hb6 ltg; have hl6_0 := Nat.le_of_lt hz6_0; have hz6_1 : w1.heap.size < w6.heap.size := lt_below hb6 ltg; have hl6_1 := Nat.le_of_lt hz6_1; have hz6_2 : w1.heap.size + 1 < w6.heap.size := lt_below hb6 ltg; have hl6_2 := Nat.le_of_lt hz6_2; have hA6 := bnext (w0 := w) bgo hb6; have hs6 := hA6.size; clear hb6)
    | (go_at_call 15; refine (cC _ _ _ uE6 uP).mono ?_; rintro r w0 ⟨rfl, rfl⟩; clear cC)
    | (go_at_call 55; refine (cB _ _ uE6).mono ?_; rintro r w9 ⟨rfl, hb9⟩; obtain ⟨hc9, hf9⟩ := bcell hb9; have hz9_0 : w.heap.size < w9.heap.size := lt_below hb9 ltg; have hl9_0 := Nat.le_of_lt hz9_0; have hz9_1 : w1.heap.size < w9.heap.size := lt_below hb9 ltg; have hl9_1 := Nat.le_of_lt hz9_1; have hz9_2 : w1.heap.size + 1 < w9.heap.size := lt_below hb9 ltg; have hl9_2 := Nat.le_of_lt hz9_2; have hA9 := bnext (w0 := w) bgo hb9; have hs9 := hA9.size; clear hb9))
  exact bodyPost_ret (by simp only [results, Tryd.results30]; go_simp) rfl ⟨rfl, bgo⟩
set_option maxHeartbeats 4000000 in
theorem rnd_ci (X : Bool) (P1 ML U : Nat) (x2 : Int) (Fl : Int)
    (cW : ∀ W a b, NT 7000 A a W → NT 7000 Z b W → Calls Tryd.prog 52 #[.int .i64 d, .bool s, a, b] W fun r w' => ∃ v, r = .returned (.tuple #[v, .bool X]) ∧ NV 41002 C0 v w' ∧ Below W.heap.size W w') (hsv : 0 ≤ sgv)
    (cP1 : ∀ W, Calls Tryd.prog 53 #[.int .u64 10, .int .i64 (pr - 1)] W fun r w' => ∃ v, r = .returned v ∧ NT 4000 P1 v w' ∧ Below W.heap.size W w')
    (hmo : mo < q + 1)
    (cF : ∀ W, Calls Tryd.prog 54 #[.int .i64 d, .bool s] W fun r w' => r = .returned (.bool true) ∧ W = w') :
    Calls Tryd.prog 30 #[.int .i64 n, .int .i64 d, .bool s, .slice (some ⟨gv, 0, none⟩) kv cv, vd, .int .i64 exp, .int .i64 want] w fun r w' => r = .returned (.tuple #[.agg #[.int .i64 2, .bool s, .bool false, .int .i64 0, .int .u64 0, .int .u64 0, .int .u64 0, .int .u64 0], .int .i64 10]) ∧ Below w.heap.size w w' := by
  have hsm := cell_set_map
  have hq2 : -(-q) = q := by omega
  (try unfold DV at *)
  (try unfold A4 at *)
  go_enter Tryd.func30, Tryd.ntmps30
  go_wp2_with (first
    | (go_at_call 50; refine (cO _).mono ?_; rintro r w1 ⟨rfl, hb1⟩; obtain ⟨hc1, hf1⟩ := bcell hb1; have hz1_0 : w.heap.size < w1.heap.size := lt_below hb1 ltg; have hl1_0 := Nat.le_of_lt hz1_0; have hA1 := bnext (w0 := w) bgo hb1; have hs1 := hA1.size; clear hb1; have q1a : w.heap.size < w1.heap.size + 1 + 1 := (by omega); have q1b : w1.heap.size < w1.heap.size + 1 + 1 := (by omega))
    | (go_at_call 13; refine (cS1 _ bgo).mono ?_; rintro r w2 ⟨a1, b1, rfl, uA, uB, hb2⟩; clear cS1; obtain ⟨hc2, hf2⟩ := bcell hb2; have hz2_0 : w.heap.size < w2.heap.size := lt_below hb2 ltg; have hl2_0 := Nat.le_of_lt hz2_0; have hz2_1 : w1.heap.size < w2.heap.size := lt_below hb2 ltg; have hl2_1 := Nat.le_of_lt hz2_1; have hz2_2 : w1.heap.size + 1 < w2.heap.size := lt_below hb2 ltg; have hl2_2 := Nat.le_of_lt hz2_2; have hA2 := bnext (w0 := w) bgo hb2; have hs2 := hA2.size; clear hb2)
    | (go_at_call 51; refine (cT _ _ _ uA uB).mono ?_; rintro r w3 ⟨rfl, hb3⟩; have uA3 := uA.next hb3; have uB3 := uB.next hb3; clear cT uA uB; obtain ⟨hc3, hf3⟩ := bcell hb3; have hz3_0 : w.heap.size < w3.heap.size := lt_below hb3 ltg; have hl3_0 := Nat.le_of_lt hz3_0; have hz3_1 : w1.heap.size < w3.heap.size := lt_below hb3 ltg; have hl3_1 := Nat.le_of_lt hz3_1; have hz3_2 : w1.heap.size + 1 < w3.heap.size := lt_below hb3 ltg; have hl3_2 := Nat.le_of_lt hz3_2; have hA3 := bnext (w0 := w) bgo hb3; have hs3 := hA3.size; clear hb3)
    | (go_at_call 13; refine (cS2 _ _ _ uA3 uB3).mono ?_; rintro r w4 ⟨a2, b2, rfl, uC, uD, hb4⟩; clear cS2 uA3 uB3; obtain ⟨hc4, hf4⟩ := bcell hb4; have hz4_0 : w.heap.size < w4.heap.size := lt_below hb4 ltg; have hl4_0 := Nat.le_of_lt hz4_0; have hz4_1 : w1.heap.size < w4.heap.size := lt_below hb4 ltg; have hl4_1 := Nat.le_of_lt hz4_1; have hz4_2 : w1.heap.size + 1 < w4.heap.size := lt_below hb4 ltg; have hl4_2 := Nat.le_of_lt hz4_2; have hA4 := bnext (w0 := w) bgo hb4; have hs4 := hA4.size; clear hb4)
    | (go_at_call 52; refine (cW _ _ _ uC uD).mono ?_; rintro r w5 ⟨vc, rfl, uE, hb5⟩; clear cW uC uD; obtain ⟨hc5, hf5⟩ := bcell hb5; have hz5_0 : w.heap.size < w5.heap.size := lt_below hb5 ltg; have hl5_0 := Nat.le_of_lt hz5_0; have hz5_1 : w1.heap.size < w5.heap.size := lt_below hb5 ltg; have hl5_1 := Nat.le_of_lt hz5_1; have hz5_2 : w1.heap.size + 1 < w5.heap.size := lt_below hb5 ltg; have hl5_2 := Nat.le_of_lt hz5_2; have hA5 := bnext (w0 := w) bgo hb5; have hs5 := hA5.size; clear hb5)
    | (go_at_call 53; refine (cP _).mono ?_; rintro r w6 ⟨vp, rfl, uP, hb6⟩; have uE6 := uE.next hb6; clear cP uE; obtain ⟨hc6, hf6⟩ := bcell hb6; have hz6_0 : w.heap.size < w6.heap.size := lt_below hb6 ltg; have hl6_0 := Nat.le_of_lt hz6_0; have hz6_1 : w1.heap.size < w6.heap.size := lt_below hb6 ltg; have hl6_1 := Nat.le_of_lt hz6_1; have hz6_2 : w1.heap.size + 1 < w6.heap.size := lt_below hb6 ltg; have hl6_2 := Nat.le_of_lt hz6_2; have hA6 := bnext (w0 := w) bgo hb6; have hs6 := hA6.size; clear hb6)
    | (go_at_call 15; refine (cC _ _ _ uE6 uP).mono ?_; rintro r w0 ⟨rfl, rfl⟩; clear cC)
    | (go_at_call 53; refine (cP1 _).mono ?_; rintro r w7 ⟨v1, rfl, u1, hb7⟩; have uP7 := uP.next hb7; clear cP1; obtain ⟨hc7, hf7⟩ := bcell hb7; have hz7_0 : w.heap.size < w7.heap.size := lt_below hb7 ltg; have hl7_0 := Nat.le_of_lt hz7_0; have hz7_1 : w1.heap.size < w7.heap.size := lt_below hb7 ltg; have hl7_1 := Nat.le_of_lt hz7_1; have hz7_2 : w1.heap.size + 1 < w7.heap.size := lt_below hb7 ltg; have hl7_2 := Nat.le_of_lt hz7_2; have hA7 := bnext (w0 := w) bgo hb7; have hs7 := hA7.size; clear hb7)
    | (go_at_call 54; refine (cF _).mono ?_; rintro r w0 ⟨rfl, rfl⟩))
  exact bodyPost_ret (by simp only [results, Tryd.results30]; go_simp) rfl ⟨rfl, bgo⟩
set_option maxHeartbeats 4000000 in
theorem rnd_cm (X : Bool) (P1 ML U : Nat) (x2 : Int) (Fl : Int)
    (cW : ∀ W a b, NT 7000 A a W → NT 7000 Z b W → Calls Tryd.prog 52 #[.int .i64 d, .bool s, a, b] W fun r w' => ∃ v, r = .returned (.tuple #[v, .bool X]) ∧ NV 41002 C0 v w' ∧ Below W.heap.size W w') (hsv : 0 ≤ sgv)
    (cP1 : ∀ W, Calls Tryd.prog 53 #[.int .u64 10, .int .i64 (pr - 1)] W fun r w' => ∃ v, r = .returned v ∧ NT 4000 P1 v w' ∧ Below W.heap.size W w')
    (hmo : mo < q + 1)
    (cF : ∀ W, Calls Tryd.prog 54 #[.int .i64 d, .bool s] W fun r w' => r = .returned (.bool false) ∧ W = w')
    (cL : ∀ W v v', NT 4000 PP v W → NV 1 1 v' W → Calls Tryd.prog 56 #[v, v'] W fun r w' => ∃ v, r = .returned v ∧ NV 4000 ML v w' ∧ Below W.heap.size W w')
    (cB : ∀ W v, NV 4000 ML v W → Calls Tryd.prog 55 #[v] W fun r w' => r = .returned (A4 ML) ∧ Below W.heap.size W w') :
    Calls Tryd.prog 30 #[.int .i64 n, .int .i64 d, .bool s, .slice (some ⟨gv, 0, none⟩) kv cv, vd, .int .i64 exp, .int .i64 want] w fun r w' => r = .returned (.tuple #[DV 1 s false mo ML, .int .i64 10]) ∧ Below w.heap.size w w' := by
  have hsm := cell_set_map
  have hq2 : -(-q) = q := by omega
  (try unfold DV at *)
  (try unfold A4 at *)
  go_enter Tryd.func30, Tryd.ntmps30
  go_wp2_with (first
    | (go_at_call 50; refine (cO _).mono ?_; rintro r w1 ⟨rfl, hb1⟩; obtain ⟨hc1, hf1⟩ := bcell hb1; have hz1_0 : w.heap.size < w1.heap.size := lt_below hb1 ltg; have hl1_0 := Nat.le_of_lt hz1_0; have hA1 := bnext (w0 := w) bgo hb1; have hs1 := hA1.size; clear hb1; have q1a : w.heap.size < w1.heap.size + 1 + 1 := (by omega); have q1b : w1.heap.size < w1.heap.size + 1 + 1 := (by omega))
    | (go_at_call 13; refine (cS1 _ bgo).mono ?_; rintro r w2 ⟨a1, b1, rfl, uA, uB, hb2⟩; clear cS1; obtain ⟨hc2, hf2⟩ := bcell hb2; have hz2_0 : w.heap.size < w2.heap.size := lt_below hb2 ltg; have hl2_0 := Nat.le_of_lt hz2_0; have hz2_1 : w1.heap.size < w2.heap.size := lt_below hb2 ltg; have hl2_1 := Nat.le_of_lt hz2_1; have hz2_2 : w1.heap.size + 1 < w2.heap.size := lt_below hb2 ltg; have hl2_2 := Nat.le_of_lt hz2_2; have hA2 := bnext (w0 := w) bgo hb2; have hs2 := hA2.size; clear hb2)
    | (go_at_call 51; refine (cT _ _ _ uA uB).mono ?_; rintro r w3 ⟨rfl, hb3⟩; have uA3 := uA.next hb3; have uB3 := uB.next hb3; clear cT uA uB; obtain ⟨hc3, hf3⟩ := bcell hb3; have hz3_0 : w.heap.size < w3.heap.size := lt_below hb3 ltg; have hl3_0 := Nat.le_of_lt hz3_0; have hz3_1 : w1.heap.size < w3.heap.size := lt_below hb3 ltg; have hl3_1 := Nat.le_of_lt hz3_1; have hz3_2 : w1.heap.size + 1 < w3.heap.size := lt_below hb3 ltg; have hl3_2 := Nat.le_of_lt hz3_2; have hA3 := bnext (w0 := w) bgo hb3; have hs3 := hA3.size; clear hb3)
    | (go_at_call 13; refine (cS2 _ _ _ uA3 uB3).mono ?_; rintro r w4 ⟨a2, b2, rfl, uC, uD, hb4⟩; clear cS2 uA3 uB3; obtain ⟨hc4, hf4⟩ := bcell hb4; have hz4_0 : w.heap.size < w4.heap.size := lt_below hb4 ltg; have hl4_0 := Nat.le_of_lt hz4_0; have hz4_1 : w1.heap.size < w4.heap.size := lt_below hb4 ltg; have hl4_1 := Nat.le_of_lt hz4_1; have hz4_2 : w1.heap.size + 1 < w4.heap.size := lt_below hb4 ltg; have hl4_2 := Nat.le_of_lt hz4_2; have hA4 := bnext (w0 := w) bgo hb4; have hs4 := hA4.size; clear hb4)
    | (go_at_call 52; refine (cW _ _ _ uC uD).mono ?_; rintro r w5 ⟨vc, rfl, uE, hb5⟩; clear cW uC uD; obtain ⟨hc5, hf5⟩ := bcell hb5; have hz5_0 : w.heap.size < w5.heap.size := lt_below hb5 ltg; have hl5_0 := Nat.le_of_lt hz5_0; have hz5_1 : w1.heap.size < w5.heap.size := lt_below hb5 ltg; have hl5_1 := Nat.le_of_lt hz5_1; have hz5_2 : w1.heap.size + 1 < w5.heap.size := lt_below hb5 ltg; have hl5_2 := Nat.le_of_lt hz5_2; have hA5 := bnext (w0 := w) bgo hb5; have hs5 := hA5.size; clear hb5)
    | (go_at_call 53; refine (cP _).mono ?_; rintro r w6 ⟨vp, rfl, uP, hb6⟩; have uE6 := uE.next hb6; clear cP uE; obtain ⟨hc6, hf6⟩ := bcell hb6; have hz6_0 : w.heap.size < w6.heap.size := lt_below hb6 ltg; have hl6_0 := Nat.le_of_lt hz6_0; have hz6_1 : w1.heap.size < w6.heap.size := lt_below hb6 ltg; have hl6_1 := Nat.le_of_lt hz6_1; have hz6_2 : w1.heap.size + 1 < w6.heap.size := lt_below hb6 ltg; have hl6_2 := Nat.le_of_lt hz6_2; have hA6 := bnext (w0 := w) bgo hb6; have hs6 := hA6.size; clear hb6)
    | (go_at_call 15; refine (cC _ _ _ uE6 uP).mono ?_; rintro r w0 ⟨rfl, rfl⟩; clear cC)
    | (go_at_call 53; refine (cP1 _).mono ?_; rintro r w7 ⟨v1, rfl, u1, hb7⟩; have uP7 := uP.next hb7; clear cP1; obtain ⟨hc7, hf7⟩ := bcell hb7; have hz7_0 : w.heap.size < w7.heap.size := lt_below hb7 ltg; have hl7_0 := Nat.le_of_lt hz7_0; have hz7_1 : w1.heap.size < w7.heap.size := lt_below hb7 ltg; have hl7_1 := Nat.le_of_lt hz7_1; have hz7_2 : w1.heap.size + 1 < w7.heap.size := lt_below hb7 ltg; have hl7_2 := Nat.le_of_lt hz7_2; have hA7 := bnext (w0 := w) bgo hb7; have hs7 := hA7.size; clear hb7)
    | (go_at_call 54; refine (cF _).mono ?_; rintro r w0 ⟨rfl, rfl⟩))
  go_region_with (first
    | (go_at_call 56; refine (cL _ _ _ (uP7.next bgo) ((nv_dec (W := w7) (g := w7.heap.size) (V := 1) (vi := 1) rfl rfl (by decide)).next bgo)).mono ?_; rintro r w8 ⟨v8, rfl, u8, hb8⟩; replace hb8 := bnext (w0 := w7) bgo hb8; obtain ⟨hc8, hf8⟩ := bcell hb8; have hz8_0 : w.heap.size < w8.heap.size := lt_below hb8 ltg; have hl8_0 := Nat.le_of_lt hz8_0; have hz8_1 : w1.heap.size < w8.heap.size := lt_below hb8 ltg; have hl8_1 := Nat.le_of_lt hz8_1; have hz8_2 : w1.heap.size + 1 < w8.heap.size := lt_below hb8 ltg; have hl8_2 := Nat.le_of_lt hz8_2; have hA8 := bnext (w0 := w) bgo hb8; have hs8 := hA8.size; clear hb8)
    | (go_at_call 55; refine (cB _ _ u8).mono ?_; rintro r w9 ⟨rfl, hb9⟩; obtain ⟨hc9, hf9⟩ := bcell hb9; have hz9_0 : w.heap.size < w9.heap.size := lt_below hb9 ltg; have hl9_0 := Nat.le_of_lt hz9_0; have hz9_1 : w1.heap.size < w9.heap.size := lt_below hb9 ltg; have hl9_1 := Nat.le_of_lt hz9_1; have hz9_2 : w1.heap.size + 1 < w9.heap.size := lt_below hb9 ltg; have hl9_2 := Nat.le_of_lt hz9_2; have hA9 := bnext (w0 := w) bgo hb9; have hs9 := hA9.size; clear hb9))
  all_goals go_wp2
  all_goals exact bodyPost_ret (by simp only [results, Tryd.results30]; go_simp) rfl ⟨rfl, bgo⟩
set_option maxHeartbeats 4000000 in
theorem rnd_cs (X : Bool) (P1 ML U : Nat) (x2 : Int) (Fl : Int)
    (cW : ∀ W a b, NT 7000 A a W → NT 7000 Z b W → Calls Tryd.prog 52 #[.int .i64 d, .bool s, a, b] W fun r w' => ∃ v, r = .returned (.tuple #[v, .bool false]) ∧ NV 41002 C0 v w' ∧ Below W.heap.size W w') (hsv : 0 ≤ sgv)
    (cP1 : ∀ W, Calls Tryd.prog 53 #[.int .u64 10, .int .i64 (pr - 1)] W fun r w' => ∃ v, r = .returned v ∧ NT 4000 P1 v w' ∧ Below W.heap.size W w')
    (hmo : ¬ mo < q + 1)
    (cB : ∀ W v, NT 4000 P1 v W → Calls Tryd.prog 55 #[v] W fun r w' => r = .returned (A4 P1) ∧ Below W.heap.size W w') (hlow : E < le + pr - 1) :
    Calls Tryd.prog 30 #[.int .i64 n, .int .i64 d, .bool s, .slice (some ⟨gv, 0, none⟩) kv cv, vd, .int .i64 exp, .int .i64 want] w fun r w' => r = .returned (.tuple #[DV 1 s false (q + 1) P1, .int .i64 12]) ∧ Below w.heap.size w w' := by
  have hsm := cell_set_map
  have hq2 : -(-q) = q := by omega
  (try unfold DV at *)
  (try unfold A4 at *)
  go_enter Tryd.func30, Tryd.ntmps30
  go_wp2_with (first
    | (go_at_call 50; refine (cO _).mono ?_; rintro r w1 ⟨rfl, hb1⟩; obtain ⟨hc1, hf1⟩ := bcell hb1; have hz1_0 : w.heap.size < w1.heap.size := lt_below hb1 ltg; have hl1_0 := Nat.le_of_lt hz1_0; have hA1 := bnext (w0 := w) bgo hb1; have hs1 := hA1.size; clear hb1; have q1a : w.heap.size < w1.heap.size + 1 + 1 := (by omega); have q1b : w1.heap.size < w1.heap.size + 1 + 1 := (by omega))
    | (go_at_call 13; refine (cS1 _ bgo).mono ?_; rintro r w2 ⟨a1, b1, rfl, uA, uB, hb2⟩; clear cS1; obtain ⟨hc2, hf2⟩ := bcell hb2; have hz2_0 : w.heap.size < w2.heap.size := lt_below hb2 ltg; have hl2_0 := Nat.le_of_lt hz2_0; have hz2_1 : w1.heap.size < w2.heap.size := lt_below hb2 ltg; have hl2_1 := Nat.le_of_lt hz2_1; have hz2_2 : w1.heap.size + 1 < w2.heap.size := lt_below hb2 ltg; have hl2_2 := Nat.le_of_lt hz2_2; have hA2 := bnext (w0 := w) bgo hb2; have hs2 := hA2.size; clear hb2)
    | (go_at_call 51; refine (cT _ _ _ uA uB).mono ?_; rintro r w3 ⟨rfl, hb3⟩; have uA3 := uA.next hb3; have uB3 := uB.next hb3; clear cT uA uB; obtain ⟨hc3, hf3⟩ := bcell hb3; have hz3_0 : w.heap.size < w3.heap.size := lt_below hb3 ltg; have hl3_0 := Nat.le_of_lt hz3_0; have hz3_1 : w1.heap.size < w3.heap.size := lt_below hb3 ltg; have hl3_1 := Nat.le_of_lt hz3_1; have hz3_2 : w1.heap.size + 1 < w3.heap.size := lt_below hb3 ltg; have hl3_2 := Nat.le_of_lt hz3_2; have hA3 := bnext (w0 := w) bgo hb3; have hs3 := hA3.size; clear hb3)
    | (go_at_call 13; refine (cS2 _ _ _ uA3 uB3).mono ?_; rintro r w4 ⟨a2, b2, rfl, uC, uD, hb4⟩; clear cS2 uA3 uB3; obtain ⟨hc4, hf4⟩ := bcell hb4; have hz4_0 : w.heap.size < w4.heap.size := lt_below hb4 ltg; have hl4_0 := Nat.le_of_lt hz4_0; have hz4_1 : w1.heap.size < w4.heap.size := lt_below hb4 ltg; have hl4_1 := Nat.le_of_lt hz4_1; have hz4_2 : w1.heap.size + 1 < w4.heap.size := lt_below hb4 ltg; have hl4_2 := Nat.le_of_lt hz4_2; have hA4 := bnext (w0 := w) bgo hb4; have hs4 := hA4.size; clear hb4)
    | (go_at_call 52; refine (cW _ _ _ uC uD).mono ?_; rintro r w5 ⟨vc, rfl, uE, hb5⟩; clear cW uC uD; obtain ⟨hc5, hf5⟩ := bcell hb5; have hz5_0 : w.heap.size < w5.heap.size := lt_below hb5 ltg; have hl5_0 := Nat.le_of_lt hz5_0; have hz5_1 : w1.heap.size < w5.heap.size := lt_below hb5 ltg; have hl5_1 := Nat.le_of_lt hz5_1; have hz5_2 : w1.heap.size + 1 < w5.heap.size := lt_below hb5 ltg; have hl5_2 := Nat.le_of_lt hz5_2; have hA5 := bnext (w0 := w) bgo hb5; have hs5 := hA5.size; clear hb5)
    | (go_at_call 53; refine (cP _).mono ?_; rintro r w6 ⟨vp, rfl, uP, hb6⟩; have uE6 := uE.next hb6; clear cP uE; obtain ⟨hc6, hf6⟩ := bcell hb6; have hz6_0 : w.heap.size < w6.heap.size := lt_below hb6 ltg; have hl6_0 := Nat.le_of_lt hz6_0; have hz6_1 : w1.heap.size < w6.heap.size := lt_below hb6 ltg; have hl6_1 := Nat.le_of_lt hz6_1; have hz6_2 : w1.heap.size + 1 < w6.heap.size := lt_below hb6 ltg; have hl6_2 := Nat.le_of_lt hz6_2; have hA6 := bnext (w0 := w) bgo hb6; have hs6 := hA6.size; clear hb6)
    | (go_at_call 15; refine (cC _ _ _ uE6 uP).mono ?_; rintro r w0 ⟨rfl, rfl⟩; clear cC)
    | (go_at_call 53; refine (cP1 _).mono ?_; rintro r w7 ⟨v1, rfl, u1, hb7⟩; have uP7 := uP.next hb7; clear cP1; obtain ⟨hc7, hf7⟩ := bcell hb7; have hz7_0 : w.heap.size < w7.heap.size := lt_below hb7 ltg; have hl7_0 := Nat.le_of_lt hz7_0; have hz7_1 : w1.heap.size < w7.heap.size := lt_below hb7 ltg; have hl7_1 := Nat.le_of_lt hz7_1; have hz7_2 : w1.heap.size + 1 < w7.heap.size := lt_below hb7 ltg; have hl7_2 := Nat.le_of_lt hz7_2; have hA7 := bnext (w0 := w) bgo hb7; have hs7 := hA7.size; clear hb7)
    | (go_at_call 55; refine (cB _ _ u1).mono ?_; rintro r w9 ⟨rfl, hb9⟩; obtain ⟨hc9, hf9⟩ := bcell hb9; have hz9_0 : w.heap.size < w9.heap.size := lt_below hb9 ltg; have hl9_0 := Nat.le_of_lt hz9_0; have hz9_1 : w1.heap.size < w9.heap.size := lt_below hb9 ltg; have hl9_1 := Nat.le_of_lt hz9_1; have hz9_2 : w1.heap.size + 1 < w9.heap.size := lt_below hb9 ltg; have hl9_2 := Nat.le_of_lt hz9_2; have hA9 := bnext (w0 := w) bgo hb9; have hs9 := hA9.size; clear hb9))
  exact bodyPost_ret (by simp only [results, Tryd.results30]; go_simp) rfl ⟨rfl, bgo⟩
set_option maxHeartbeats 4000000 in
theorem rnd_cr (X : Bool) (P1 ML U : Nat) (x2 : Int) (Fl : Int)
    (cW : ∀ W a b, NT 7000 A a W → NT 7000 Z b W → Calls Tryd.prog 52 #[.int .i64 d, .bool s, a, b] W fun r w' => ∃ v, r = .returned (.tuple #[v, .bool false]) ∧ NV 41002 C0 v w' ∧ Below W.heap.size W w') (hsv : 0 ≤ sgv)
    (cP1 : ∀ W, Calls Tryd.prog 53 #[.int .u64 10, .int .i64 (pr - 1)] W fun r w' => ∃ v, r = .returned v ∧ NT 4000 P1 v w' ∧ Below W.heap.size W w')
    (hmo : ¬ mo < q + 1)
    (cB : ∀ W v, NT 4000 P1 v W → Calls Tryd.prog 55 #[v] W fun r w' => r = .returned (A4 P1) ∧ Below W.heap.size W w') (hlow : ¬ E < le + pr - 1) :
    Calls Tryd.prog 30 #[.int .i64 n, .int .i64 d, .bool s, .slice (some ⟨gv, 0, none⟩) kv cv, vd, .int .i64 exp, .int .i64 want] w fun r w' => r = .returned (.tuple #[DV 1 s false (q + 1) P1, .int .i64 8]) ∧ Below w.heap.size w w' := by
  have hsm := cell_set_map
  have hq2 : -(-q) = q := by omega
  (try unfold DV at *)
  (try unfold A4 at *)
  go_enter Tryd.func30, Tryd.ntmps30
  go_wp2_with (first
    | (go_at_call 50; refine (cO _).mono ?_; rintro r w1 ⟨rfl, hb1⟩; obtain ⟨hc1, hf1⟩ := bcell hb1; have hz1_0 : w.heap.size < w1.heap.size := lt_below hb1 ltg; have hl1_0 := Nat.le_of_lt hz1_0; have hA1 := bnext (w0 := w) bgo hb1; have hs1 := hA1.size; clear hb1; have q1a : w.heap.size < w1.heap.size + 1 + 1 := (by omega); have q1b : w1.heap.size < w1.heap.size + 1 + 1 := (by omega))
    | (go_at_call 13; refine (cS1 _ bgo).mono ?_; rintro r w2 ⟨a1, b1, rfl, uA, uB, hb2⟩; clear cS1; obtain ⟨hc2, hf2⟩ := bcell hb2; have hz2_0 : w.heap.size < w2.heap.size := lt_below hb2 ltg; have hl2_0 := Nat.le_of_lt hz2_0; have hz2_1 : w1.heap.size < w2.heap.size := lt_below hb2 ltg; have hl2_1 := Nat.le_of_lt hz2_1; have hz2_2 : w1.heap.size + 1 < w2.heap.size := lt_below hb2 ltg; have hl2_2 := Nat.le_of_lt hz2_2; have hA2 := bnext (w0 := w) bgo hb2; have hs2 := hA2.size; clear hb2)
    | (go_at_call 51; refine (cT _ _ _ uA uB).mono ?_; rintro r w3 ⟨rfl, hb3⟩; have uA3 := uA.next hb3; have uB3 := uB.next hb3; clear cT uA uB; obtain ⟨hc3, hf3⟩ := bcell hb3; have hz3_0 : w.heap.size < w3.heap.size := lt_below hb3 ltg; have hl3_0 := Nat.le_of_lt hz3_0; have hz3_1 : w1.heap.size < w3.heap.size := lt_below hb3 ltg; have hl3_1 := Nat.le_of_lt hz3_1; have hz3_2 : w1.heap.size + 1 < w3.heap.size := lt_below hb3 ltg; have hl3_2 := Nat.le_of_lt hz3_2; have hA3 := bnext (w0 := w) bgo hb3; have hs3 := hA3.size; clear hb3)
    | (go_at_call 13; refine (cS2 _ _ _ uA3 uB3).mono ?_; rintro r w4 ⟨a2, b2, rfl, uC, uD, hb4⟩; clear cS2 uA3 uB3; obtain ⟨hc4, hf4⟩ := bcell hb4; have hz4_0 : w.heap.size < w4.heap.size := lt_below hb4 ltg; have hl4_0 := Nat.le_of_lt hz4_0; have hz4_1 : w1.heap.size < w4.heap.size := lt_below hb4 ltg; have hl4_1 := Nat.le_of_lt hz4_1; have hz4_2 : w1.heap.size + 1 < w4.heap.size := lt_below hb4 ltg; have hl4_2 := Nat.le_of_lt hz4_2; have hA4 := bnext (w0 := w) bgo hb4; have hs4 := hA4.size; clear hb4)
    | (go_at_call 52; refine (cW _ _ _ uC uD).mono ?_; rintro r w5 ⟨vc, rfl, uE, hb5⟩; clear cW uC uD; obtain ⟨hc5, hf5⟩ := bcell hb5; have hz5_0 : w.heap.size < w5.heap.size := lt_below hb5 ltg; have hl5_0 := Nat.le_of_lt hz5_0; have hz5_1 : w1.heap.size < w5.heap.size := lt_below hb5 ltg; have hl5_1 := Nat.le_of_lt hz5_1; have hz5_2 : w1.heap.size + 1 < w5.heap.size := lt_below hb5 ltg; have hl5_2 := Nat.le_of_lt hz5_2; have hA5 := bnext (w0 := w) bgo hb5; have hs5 := hA5.size; clear hb5)
    | (go_at_call 53; refine (cP _).mono ?_; rintro r w6 ⟨vp, rfl, uP, hb6⟩; have uE6 := uE.next hb6; clear cP uE; obtain ⟨hc6, hf6⟩ := bcell hb6; have hz6_0 : w.heap.size < w6.heap.size := lt_below hb6 ltg; have hl6_0 := Nat.le_of_lt hz6_0; have hz6_1 : w1.heap.size < w6.heap.size := lt_below hb6 ltg; have hl6_1 := Nat.le_of_lt hz6_1; have hz6_2 : w1.heap.size + 1 < w6.heap.size := lt_below hb6 ltg; have hl6_2 := Nat.le_of_lt hz6_2; have hA6 := bnext (w0 := w) bgo hb6; have hs6 := hA6.size; clear hb6)
    | (go_at_call 15; refine (cC _ _ _ uE6 uP).mono ?_; rintro r w0 ⟨rfl, rfl⟩; clear cC)
    | (go_at_call 53; refine (cP1 _).mono ?_; rintro r w7 ⟨v1, rfl, u1, hb7⟩; have uP7 := uP.next hb7; clear cP1; obtain ⟨hc7, hf7⟩ := bcell hb7; have hz7_0 : w.heap.size < w7.heap.size := lt_below hb7 ltg; have hl7_0 := Nat.le_of_lt hz7_0; have hz7_1 : w1.heap.size < w7.heap.size := lt_below hb7 ltg; have hl7_1 := Nat.le_of_lt hz7_1; have hz7_2 : w1.heap.size + 1 < w7.heap.size := lt_below hb7 ltg; have hl7_2 := Nat.le_of_lt hz7_2; have hA7 := bnext (w0 := w) bgo hb7; have hs7 := hA7.size; clear hb7)
    | (go_at_call 55; refine (cB _ _ u1).mono ?_; rintro r w9 ⟨rfl, hb9⟩; obtain ⟨hc9, hf9⟩ := bcell hb9; have hz9_0 : w.heap.size < w9.heap.size := lt_below hb9 ltg; have hl9_0 := Nat.le_of_lt hz9_0; have hz9_1 : w1.heap.size < w9.heap.size := lt_below hb9 ltg; have hl9_1 := Nat.le_of_lt hz9_1; have hz9_2 : w1.heap.size + 1 < w9.heap.size := lt_below hb9 ltg; have hl9_2 := Nat.le_of_lt hz9_2; have hA9 := bnext (w0 := w) bgo hb9; have hs9 := hA9.size; clear hb9))
  exact bodyPost_ret (by simp only [results, Tryd.results30]; go_simp) rfl ⟨rfl, bgo⟩
end
end Go.Proofs.YtmommdhnogogdaaDoor
