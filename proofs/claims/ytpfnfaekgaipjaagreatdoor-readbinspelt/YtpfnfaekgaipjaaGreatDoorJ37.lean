/-
  Texts that the proof leans on, joined: Yd.
-/
import Derived.Test.YtpfnfaekgaipjaaGreatDoorJ33
import Derived.Test.YtpfnfaekgaipjaaGreatDoorJ34
import Derived.Test.YtpfnfaekgaipjaaGreatDoorJ36
import Derived.Test.YtpfnfaekgaipjaaGreatDoorJ31
import Derived.Test.YtpfnfaekgaipjaaGreatDoorJ1
set_option linter.unusedVariables false
set_option linter.unusedSectionVars false
set_option linter.unusedSimpArgs false
set_option maxRecDepth 20000
namespace Go.Proofs.YtpfnfaekgaipjaaGreatDoor
open Go.RowKit

noncomputable def opsE9 : List Oper := match Tryz.f3.body with
  | some (.seq _ (.seq _ (.seq _ (.seq _ (.seq _ (.seq (.seq _ (.cond _ _ (.region _ o _))) _)))))) => o.toList
  | _ => []
def slotsE9 : List Nat := [40, 41, 42, 43, 44, 45, 46, 47, 9]
def slotsAE9 : List Nat := [40, 41, 42, 43, 44, 45, 46, 47, 9, 10]
attribute [local irreducible] W4 NT NV
theorem regE9 {h4 k X M P5 F : Nat} {x : Int} {v9 : Value} {a0 : Act} {ws : World} {Q : Exit → Act → World → Prop} (hs : a0.tmps.size = 76) (g7 : slot a0 7 = .pointer (some ⟨h4, 0, none⟩)) (g9 : slot a0 9 = v9) (hv9 : NT 4 k v9 ws) (hx : -1000000 ≤ x ∧ x ≤ 1000000) (hlt : h4 < ws.heap.size) (k3 : ws.cell? ⟨h4, 3, none⟩ = some (.int .i64 x))
    (c11 : ∀ W, Calls Tryz.prog 11 #[.int .u64 5, .int .i64 (-x)] W fun e w' => ∃ v, e = .returned v ∧ NV P5 F v w' ∧ Below W.heap.size W w')
    (c10 : ∀ W v p, NT 4 k v W → NV P5 F p W → Calls Tryz.prog 10 #[v, p] W fun e w' => ∃ u, e = .returned u ∧ NT M X u w' ∧ Below W.heap.size W w')
    (hQ : ∀ (a : Act) (w : World) (u : Value), slot a 9 = u → slot a 10 = .int .i64 x → NT M X u w → a.tmps.size = 76 → a.defers = a0.defers → (∀ t, (∀ i, i < 10 → slotsAE9.getD i 0 ≠ t) → slot a t = slot a0 t) → Below ws.heap.size ws w → Q .normal a w) :
    (Code.region 9 opsE9.toArray true).wp Tryz.prog Q a0 ws := by
  refine wp_region_mem 9 76 slotsE9 [NT 4 k, iW (.pointer (some ⟨h4, 3, none⟩)), iW (.int .i64 x), iW (.int .i64 (-x)), NV P5 F, NT M X, iW (.pointer (some ⟨h4, 3, none⟩)), iW (.int .i64 x), NT M X] (fun w w' => Below w.heap.size w w') (fun L f w => Below ws.heap.size ws w ∧ (¬ L 8 → f 9 = v9)) (by kernel_rfl) (by kernel_rfl) (by kernel_rfl) hs ?_ ⟨(Below.refl _ _).drew, fun _ => g9⟩ ?_ ?_
  · intro p hp
    simp only [List.mem_cons, List.not_mem_nil, or_false] at hp
    rcases hp with rfl | rfl | rfl | rfl | rfl | rfl | rfl | rfl | rfl
    all_goals first | exact fun _ _ _ h _ => h | exact fun _ _ _ h hb => h.next hb
  · intro L i o a w hi ho hL hcl he hM hF hv
    have f7 : slot a 7 = .pointer (some ⟨h4, 0, none⟩) := (hF 7 (by decide)).trans g7
    obtain ⟨hM, hN⟩ := hM
    have hNs : ∀ (t : Nat) (v : Value), t ≠ 9 → ∀ k : Nat, k ≠ 8 → ¬ (L 8 ∨ 8 = k) → (if some t = some 9 then v else slot a 9) = v9 := fun t v ht k hk h => by
      rw [if_neg (fun e => ht (Option.some.inj e))]
      exact hN fun h8 => h (Or.inl h8)
    have hor : i = 0 ∨ i = 1 ∨ i = 2 ∨ i = 3 ∨ i = 4 ∨ i = 5 ∨ i = 6 ∨ i = 7 ∨ i = 8 := by omega
    rcases hor with rfl | rfl | rfl | rfl | rfl | rfl | rfl | rfl | rfl
    · have hL8 : ¬ L 8 := fun h8 => hL (hcl 5 _ (show opsE9[5]? = some _ from rfl) (hcl 8 _ (show opsE9[8]? = some _ from rfl) h8 ⟨5, .data⟩ (by simp) rfl) ⟨0, .data⟩ (by simp) rfl)
      have f9 := hN hL8
      obtain rfl := Option.some.inj (show opsE9[0]? = some o from ho)
      exact og_mv f9 ⟨_, rfl, hv9.next hM, Below.refl _ _, hM, hNs 40 _ (by decide) 0 (by decide)⟩
    · obtain rfl := Option.some.inj (show opsE9[1]? = some o from ho)
      exact og_fad3 f7 ⟨_, rfl, rfl, Below.refl _ _, hM, hNs 41 _ (by decide) 1 (by decide)⟩
    · obtain rfl := Option.some.inj (show opsE9[2]? = some o from ho)
      exact og_ld3 (hv 1 (by decide) rfl (he ⟨1, .data⟩ (by simp) rfl) : slot a 41 = .pointer (some ⟨h4, 3, none⟩)) ((hM.cell (p := ⟨h4, 3, none⟩) hlt).trans k3) ⟨_, rfl, rfl, Below.refl _ _, hM, hNs 42 _ (by decide) 2 (by decide)⟩
    · obtain rfl := Option.some.inj (show opsE9[3]? = some o from ho)
      exact og_neg hx (hv 2 (by decide) rfl (he ⟨2, .data⟩ (by simp) rfl) : slot a 42 = .int .i64 x) ⟨_, rfl, rfl, Below.refl _ _, hM, hNs 43 _ (by decide) 3 (by decide)⟩
    · obtain rfl := Option.some.inj (show opsE9[4]? = some o from ho)
      refine og_pow (hv 3 (by decide) rfl (he ⟨3, .data⟩ (by simp) rfl) : slot a 43 = .int .i64 (-x)) ((c11 w).mono ?_)
      rintro e w' ⟨v, rfl, hSv, hb⟩
      exact ⟨v, rfl, _, rfl, hSv, hb, bnx hM hb, hNs 44 _ (by decide) 4 (by decide)⟩
    · obtain rfl := Option.some.inj (show opsE9[5]? = some o from ho)
      refine og_times rfl rfl ((c10 w _ _ (hv 0 (by decide) rfl (he ⟨0, .data⟩ (by simp) rfl)) (hv 4 (by decide) rfl (he ⟨4, .data⟩ (by simp) rfl))).mono ?_)
      rintro e w' ⟨v, rfl, hSv, hb⟩
      exact ⟨v, rfl, _, rfl, hSv, hb, bnx hM hb, hNs 45 _ (by decide) 5 (by decide)⟩
    · obtain rfl := Option.some.inj (show opsE9[6]? = some o from ho)
      exact og_fad3 f7 ⟨_, rfl, rfl, Below.refl _ _, hM, hNs 46 _ (by decide) 6 (by decide)⟩
    · obtain rfl := Option.some.inj (show opsE9[7]? = some o from ho)
      exact og_ld3 (hv 6 (by decide) rfl (he ⟨6, .data⟩ (by simp) rfl) : slot a 46 = .pointer (some ⟨h4, 3, none⟩)) ((hM.cell (p := ⟨h4, 3, none⟩) hlt).trans k3) ⟨_, rfl, rfl, Below.refl _ _, hM, hNs 47 _ (by decide) 7 (by decide)⟩
    · obtain rfl := Option.some.inj (show opsE9[8]? = some o from ho)
      exact og_as rfl ⟨_, rfl, hv 5 (by decide) rfl (he ⟨5, .data⟩ (by simp) rfl), Below.refl _ _, hM, fun h => absurd (Or.inr rfl) h⟩
  · intro L a w hL hM hsz hdf hF hv
    have z0 : NT M X (slot a 9) w := hv 8 (by decide) rfl
    have z1 : slot a 47 = .int .i64 x := hv 7 (by decide) rfl
    refine BigFrame.wpList_want rfl fun K hK => og_as z1 (hK _ _ ?_)
    clear K hK
    refine hQ _ _ (slot a 9) ?_ (slot_put (by omega)) z0 (by simp [Act.put, hsz]) hdf (fun t ht => ?_) hM.1
    · rw [slot_put_ne (by decide)]
    · rw [slot_put_ne (show 10 ≠ t from ht 9 (by decide))]
      exact hF t fun i hi => by
        have := ht i (by omega)
        have hor : i = 0 ∨ i = 1 ∨ i = 2 ∨ i = 3 ∨ i = 4 ∨ i = 5 ∨ i = 6 ∨ i = 7 ∨ i = 8 := by omega
        rcases hor with rfl | rfl | rfl | rfl | rfl | rfl | rfl | rfl | rfl <;> exact this
section
variable (n d : Int) (V : Nat) (c x : Int) (s g : Bool) (k : Nat) (w : World) (hT : Tab w) (hT10 : Tb10 w)
include hT hT10
set_option maxHeartbeats 2000000 in
theorem ex_no (c6 : ∀ W, Calls Tryz.prog 6 #[.int .i64 n, A4 V] W fun r w' => r = .returned (.tuple #[DV c s g x k, .bool false]) ∧ Below W.heap.size W w') :
    Calls Tryz.prog 3 #[.int .i64 n, A4 V, .int .i64 d] w fun r w' => r = .returned (.bool true) ∧ Below w.heap.size w w' := by
  have c5 := awake8
  have hsm := cell_set_map
  unfold DV A4 at *
  go_enter Tryz.func3, Tryz.ntmps3
  go_wp2_with (first
    | (go_at_call 5; refine (c5 _ (hT.go bgo) (hT10.next bgo)).mono ?_; rintro r w1 ⟨rfl, hb1⟩; obtain ⟨hc1, hf1⟩ := bcell hb1; have hz1_0 : w.heap.size < w1.heap.size := lt_below hb1 ltg; have hl1_0 := Nat.le_of_lt hz1_0; have hA1 := bnext (w0 := w) bgo hb1; have hs1 := hA1.size; clear hb1)
    | (go_at_call 6; refine (c6 _).mono ?_; rintro r w2 ⟨rfl, hb2⟩; obtain ⟨hc2, hf2⟩ := bcell hb2; have hz2_0 : w.heap.size < w2.heap.size := lt_below hb2 ltg; have hl2_0 := Nat.le_of_lt hz2_0; have hA2 := bnext (w0 := w) bgo hb2; have hs2 := hA2.size; clear hb2))
  go_ret
  exact ⟨rfl, bgo⟩
variable (c6 : ∀ W, Calls Tryz.prog 6 #[.int .i64 n, A4 V] W fun r w' => r = .returned (.tuple #[DV 1 s g x k, .bool true]) ∧ Below W.heap.size W w')
include c6
set_option maxHeartbeats 2000000 in
theorem ex_nd (c7 : ∀ W, Calls Tryz.prog 7 #[.int .i64 d] W fun r w' => r = .returned (.bool false) ∧ W = w') :
    Calls Tryz.prog 3 #[.int .i64 n, A4 V, .int .i64 d] w fun r w' => r = .returned (.bool true) ∧ Below w.heap.size w w' := by
  have c5 := awake8
  have hsm := cell_set_map
  unfold DV A4 at *
  go_enter Tryz.func3, Tryz.ntmps3
  go_wp2_with (first
    | (go_at_call 5; refine (c5 _ (hT.go bgo) (hT10.next bgo)).mono ?_; rintro r w1 ⟨rfl, hb1⟩; obtain ⟨hc1, hf1⟩ := bcell hb1; have hz1_0 : w.heap.size < w1.heap.size := lt_below hb1 ltg; have hl1_0 := Nat.le_of_lt hz1_0; have hA1 := bnext (w0 := w) bgo hb1; have hs1 := hA1.size; clear hb1)
    | (go_at_call 6; refine (c6 _).mono ?_; rintro r w2 ⟨rfl, hb2⟩; obtain ⟨hc2, hf2⟩ := bcell hb2; have hz2_0 : w.heap.size < w2.heap.size := lt_below hb2 ltg; have hl2_0 := Nat.le_of_lt hz2_0; have hA2 := bnext (w0 := w) bgo hb2; have hs2 := hA2.size; clear hb2)
    | (go_at_call 7; refine (c7 _).mono ?_; rintro r w3 ⟨rfl, rfl⟩))
  go_ret
  exact ⟨rfl, bgo⟩
variable (c7 : ∀ W, Calls Tryz.prog 7 #[.int .i64 d] W fun r w' => r = .returned (.bool true) ∧ W = w')
  (M X : Nat) (D T : List UInt8) (hxb : -1000000 ≤ x ∧ x ≤ 1000000)
  (c8 : ∀ W, Calls Tryz.prog 8 #[A4 k] W fun r w' => ∃ v, r = .returned v ∧ NT 4 k v w' ∧ Below W.heap.size W w')
  (c12 : ∀ W u, NT M X u W → Calls Tryz.prog 12 #[u] W fun r w' => r = .returned (.string (B D)) ∧ Below W.heap.size W w')
include c7 hxb c8 c12
set_option maxHeartbeats 4000000 in
theorem ex_pl (hx : 0 ≤ x) (c9 : ∀ W v, NT 4 k v W → Calls Tryz.prog 9 #[v, .int .i64 x] W fun r w' => ∃ u, r = .returned u ∧ NT M X u w' ∧ Below W.heap.size W w') (hD : (3900 : Int) < (B D).size) :
    Calls Tryz.prog 3 #[.int .i64 n, A4 V, .int .i64 d] w fun r w' => r = .returned (.bool true) ∧ Below w.heap.size w w' := by
  have c5 := awake8
  have hsm := cell_set_map
  unfold DV A4 at *
  go_enter Tryz.func3, Tryz.ntmps3
  go_wp2_with (first
    | (go_at_call 5; refine (c5 _ (hT.go bgo) (hT10.next bgo)).mono ?_; rintro r w1 ⟨rfl, hb1⟩; obtain ⟨hc1, hf1⟩ := bcell hb1; have hz1_0 : w.heap.size < w1.heap.size := lt_below hb1 ltg; have hl1_0 := Nat.le_of_lt hz1_0; have hA1 := bnext (w0 := w) bgo hb1; have hs1 := hA1.size; clear hb1)
    | (go_at_call 6; refine (c6 _).mono ?_; rintro r w2 ⟨rfl, hb2⟩; obtain ⟨hc2, hf2⟩ := bcell hb2; have hz2_0 : w.heap.size < w2.heap.size := lt_below hb2 ltg; have hl2_0 := Nat.le_of_lt hz2_0; have hA2 := bnext (w0 := w) bgo hb2; have hs2 := hA2.size; clear hb2)
    | (go_at_call 7; refine (c7 _).mono ?_; rintro r w3 ⟨rfl, rfl⟩)
    | (go_at_call 8; refine (c8 _).mono ?_; rintro r w3 ⟨v3, rfl, hv3, hb3⟩; obtain ⟨hc3, hf3⟩ := bcell hb3; have hz3_0 : w.heap.size < w3.heap.size := lt_below hb3 ltg; have hl3_0 := Nat.le_of_lt hz3_0; have hz3_1 : w2.heap.size < w3.heap.size := lt_below hb3 ltg; have hl3_1 := Nat.le_of_lt hz3_1; have hA3 := bnext (w0 := w) bgo hb3; have hs3 := hA3.size; clear hb3)
    | (go_at_call 9; refine (c9 _ _ hv3).mono ?_; rintro r w4 ⟨v4, rfl, hv4, hb4⟩; obtain ⟨hc4, hf4⟩ := bcell hb4; have hz4_0 : w.heap.size < w4.heap.size := lt_below hb4 ltg; have hl4_0 := Nat.le_of_lt hz4_0; have hz4_1 : w2.heap.size < w4.heap.size := lt_below hb4 ltg; have hl4_1 := Nat.le_of_lt hz4_1; have hA4 := bnext (w0 := w) bgo hb4; have hs4 := hA4.size; clear hb4)
    | (go_at_call 12; refine (c12 _ _ hv4).mono ?_; rintro r w5 ⟨rfl, hb5⟩; obtain ⟨hc5, hf5⟩ := bcell hb5; have hz5_0 : w.heap.size < w5.heap.size := lt_below hb5 ltg; have hl5_0 := Nat.le_of_lt hz5_0; have hz5_1 : w2.heap.size < w5.heap.size := lt_below hb5 ltg; have hl5_1 := Nat.le_of_lt hz5_1; have hA5 := bnext (w0 := w) bgo hb5; have hs5 := hA5.size; clear hb5))
  go_ret
  exact ⟨rfl, bgo⟩
set_option maxHeartbeats 4000000 in
theorem ex_ps (hx : 0 ≤ x) (c9 : ∀ W v, NT 4 k v W → Calls Tryz.prog 9 #[v, .int .i64 x] W fun r w' => ∃ u, r = .returned u ∧ NT M X u w' ∧ Below W.heap.size W w') (hD : (B D).size ≤ 3900)
    (c14 : ∀ W, Tb10 W → Calls Tryz.prog 14 #[.bool s, .string (B D), .int .i64 0] W fun r w' => r = .returned (.string (B T)) ∧ Below W.heap.size W w')
    (c13 : ∀ W, Tab W → Tb10 W → Calls Tryz.prog 13 #[.int .i64 n, .int .i64 d, .string (B T)] W fun r w' => r = .returned (.tuple #[A4 V, .int .i64 0, .int .i64 0]) ∧ Below W.heap.size W w') :
    Calls Tryz.prog 3 #[.int .i64 n, A4 V, .int .i64 d] w fun r w' => r = .returned (.bool true) ∧ Below w.heap.size w w' := by
  have c5 := awake8
  have hsm := cell_set_map
  have hself := A4_self V
  have hD' : ((B D).size : Int) ≤ 3900 := by omega
  unfold DV A4 at *
  go_enter Tryz.func3, Tryz.ntmps3
  go_wp2_with (first
    | (go_at_call 5; refine (c5 _ (hT.go bgo) (hT10.next bgo)).mono ?_; rintro r w1 ⟨rfl, hb1⟩; obtain ⟨hc1, hf1⟩ := bcell hb1; have hz1_0 : w.heap.size < w1.heap.size := lt_below hb1 ltg; have hl1_0 := Nat.le_of_lt hz1_0; have hA1 := bnext (w0 := w) bgo hb1; have hs1 := hA1.size; clear hb1)
    | (go_at_call 6; refine (c6 _).mono ?_; rintro r w2 ⟨rfl, hb2⟩; obtain ⟨hc2, hf2⟩ := bcell hb2; have hz2_0 : w.heap.size < w2.heap.size := lt_below hb2 ltg; have hl2_0 := Nat.le_of_lt hz2_0; have hA2 := bnext (w0 := w) bgo hb2; have hs2 := hA2.size; clear hb2)
    | (go_at_call 7; refine (c7 _).mono ?_; rintro r w3 ⟨rfl, rfl⟩)
    | (go_at_call 8; refine (c8 _).mono ?_; rintro r w3 ⟨v3, rfl, hv3, hb3⟩; obtain ⟨hc3, hf3⟩ := bcell hb3; have hz3_0 : w.heap.size < w3.heap.size := lt_below hb3 ltg; have hl3_0 := Nat.le_of_lt hz3_0; have hz3_1 : w2.heap.size < w3.heap.size := lt_below hb3 ltg; have hl3_1 := Nat.le_of_lt hz3_1; have hA3 := bnext (w0 := w) bgo hb3; have hs3 := hA3.size; clear hb3)
    | (go_at_call 9; refine (c9 _ _ hv3).mono ?_; rintro r w4 ⟨v4, rfl, hv4, hb4⟩; obtain ⟨hc4, hf4⟩ := bcell hb4; have hz4_0 : w.heap.size < w4.heap.size := lt_below hb4 ltg; have hl4_0 := Nat.le_of_lt hz4_0; have hz4_1 : w2.heap.size < w4.heap.size := lt_below hb4 ltg; have hl4_1 := Nat.le_of_lt hz4_1; have hA4 := bnext (w0 := w) bgo hb4; have hs4 := hA4.size; clear hb4)
    | (go_at_call 12; refine (c12 _ _ hv4).mono ?_; rintro r w5 ⟨rfl, hb5⟩; obtain ⟨hc5, hf5⟩ := bcell hb5; have hz5_0 : w.heap.size < w5.heap.size := lt_below hb5 ltg; have hl5_0 := Nat.le_of_lt hz5_0; have hz5_1 : w2.heap.size < w5.heap.size := lt_below hb5 ltg; have hl5_1 := Nat.le_of_lt hz5_1; have hA5 := bnext (w0 := w) bgo hb5; have hs5 := hA5.size; clear hb5)
    | (go_at_call 14; refine (c14 _ (hT10.next bgo)).mono ?_; rintro r w6 ⟨rfl, hb6⟩; obtain ⟨hc6, hf6⟩ := bcell hb6; have hz6_0 : w.heap.size < w6.heap.size := lt_below hb6 ltg; have hl6_0 := Nat.le_of_lt hz6_0; have hz6_1 : w2.heap.size < w6.heap.size := lt_below hb6 ltg; have hl6_1 := Nat.le_of_lt hz6_1; have hA6 := bnext (w0 := w) bgo hb6; have hs6 := hA6.size; clear hb6)
    | (go_at_call 13; refine (c13 _ (hT.go bgo) (hT10.next bgo)).mono ?_; rintro r w7 ⟨rfl, hb7⟩; obtain ⟨hc7, hf7⟩ := bcell hb7; have hz7_0 : w.heap.size < w7.heap.size := lt_below hb7 ltg; have hl7_0 := Nat.le_of_lt hz7_0; have hz7_1 : w2.heap.size < w7.heap.size := lt_below hb7 ltg; have hl7_1 := Nat.le_of_lt hz7_1; have hA7 := bnext (w0 := w) bgo hb7; have hs7 := hA7.size; clear hb7))
  go_ret
  exact ⟨by simp, bgo⟩
set_option maxHeartbeats 4000000 in
theorem ex_nl (hx : ¬ 0 ≤ x) (P5 F : Nat) (c11 : ∀ W, Calls Tryz.prog 11 #[.int .u64 5, .int .i64 (-x)] W fun e w' => ∃ v, e = .returned v ∧ NV P5 F v w' ∧ Below W.heap.size W w')
    (c10 : ∀ W v p, NT 4 k v W → NV P5 F p W → Calls Tryz.prog 10 #[v, p] W fun e w' => ∃ u, e = .returned u ∧ NT M X u w' ∧ Below W.heap.size W w') (hD : (3900 : Int) < (B D).size) :
    Calls Tryz.prog 3 #[.int .i64 n, A4 V, .int .i64 d] w fun r w' => r = .returned (.bool true) ∧ Below w.heap.size w w' := by
  have c5 := awake8
  have hsm := cell_set_map
  unfold DV A4 at *
  go_enter Tryz.func3, Tryz.ntmps3
  go_wp2_with (first
    | (go_at_call 5; refine (c5 _ (hT.go bgo) (hT10.next bgo)).mono ?_; rintro r w1 ⟨rfl, hb1⟩; obtain ⟨hc1, hf1⟩ := bcell hb1; have hz1_0 : w.heap.size < w1.heap.size := lt_below hb1 ltg; have hl1_0 := Nat.le_of_lt hz1_0; have hA1 := bnext (w0 := w) bgo hb1; have hs1 := hA1.size; clear hb1)
    | (go_at_call 6; refine (c6 _).mono ?_; rintro r w2 ⟨rfl, hb2⟩; obtain ⟨hc2, hf2⟩ := bcell hb2; have hz2_0 : w.heap.size < w2.heap.size := lt_below hb2 ltg; have hl2_0 := Nat.le_of_lt hz2_0; have hA2 := bnext (w0 := w) bgo hb2; have hs2 := hA2.size; clear hb2)
    | (go_at_call 7; refine (c7 _).mono ?_; rintro r w3 ⟨rfl, rfl⟩)
    | (go_at_call 8; refine (c8 _).mono ?_; rintro r w3 ⟨v3, rfl, hv3, hb3⟩; obtain ⟨hc3, hf3⟩ := bcell hb3; have hz3_0 : w.heap.size < w3.heap.size := lt_below hb3 ltg; have hl3_0 := Nat.le_of_lt hz3_0; have hz3_1 : w2.heap.size < w3.heap.size := lt_below hb3 ltg; have hl3_1 := Nat.le_of_lt hz3_1; have hA3 := bnext (w0 := w) bgo hb3; have hs3 := hA3.size; clear hb3))
  refine regE9 (h4 := w2.heap.size) (k := k) rfl rfl rfl hv3 hxb (by assumption) (by go_simp) c11 c10 ?_
  intro a' w4 v4 h9 h10 hv4 hsz hdf hF hb4
  have ha := act_of slotsAE9 10 rfl hsz hdf hF
  rw [ha]
  simp only [slotsAE9, List.foldl_cons, List.foldl_nil, Act.put, List.setIfInBounds_toArray, List.set_cons_succ, List.set_cons_zero, h9, h10]
  generalize slot a' 40 = s40
  generalize slot a' 41 = s41
  generalize slot a' 42 = s42
  generalize slot a' 43 = s43
  generalize slot a' 44 = s44
  generalize slot a' 45 = s45
  generalize slot a' 46 = s46
  generalize slot a' 47 = s47
  clear ha h9 h10 hsz hdf hF
  obtain ⟨hc4, hf4⟩ := bcell hb4; have hz4_0 : w.heap.size < w4.heap.size := lt_below hb4 ltg; have hl4_0 := Nat.le_of_lt hz4_0; have hz4_1 : w2.heap.size < w4.heap.size := lt_below hb4 ltg; have hl4_1 := Nat.le_of_lt hz4_1; have hA4 := bnext (w0 := w) bgo hb4; have hs4 := hA4.size; clear hb4
  go_wp2_with (first
    | (go_at_call 12; refine (c12 _ _ hv4).mono ?_; rintro r w5 ⟨rfl, hb5⟩; obtain ⟨hc5, hf5⟩ := bcell hb5; have hz5_0 : w.heap.size < w5.heap.size := lt_below hb5 ltg; have hl5_0 := Nat.le_of_lt hz5_0; have hz5_1 : w2.heap.size < w5.heap.size := lt_below hb5 ltg; have hl5_1 := Nat.le_of_lt hz5_1; have hA5 := bnext (w0 := w) bgo hb5; have hs5 := hA5.size; clear hb5))
  go_ret
  exact ⟨by simp, bgo⟩
set_option maxHeartbeats 4000000 in
theorem ex_ns (hx : ¬ 0 ≤ x) (P5 F : Nat) (c11 : ∀ W, Calls Tryz.prog 11 #[.int .u64 5, .int .i64 (-x)] W fun e w' => ∃ v, e = .returned v ∧ NV P5 F v w' ∧ Below W.heap.size W w')
    (c10 : ∀ W v p, NT 4 k v W → NV P5 F p W → Calls Tryz.prog 10 #[v, p] W fun e w' => ∃ u, e = .returned u ∧ NT M X u w' ∧ Below W.heap.size W w') (hD : (B D).size ≤ 3900)
    (c14 : ∀ W, Tb10 W → Calls Tryz.prog 14 #[.bool s, .string (B D), .int .i64 x] W fun r w' => r = .returned (.string (B T)) ∧ Below W.heap.size W w')
    (c13 : ∀ W, Tab W → Tb10 W → Calls Tryz.prog 13 #[.int .i64 n, .int .i64 d, .string (B T)] W fun r w' => r = .returned (.tuple #[A4 V, .int .i64 0, .int .i64 0]) ∧ Below W.heap.size W w') :
    Calls Tryz.prog 3 #[.int .i64 n, A4 V, .int .i64 d] w fun r w' => r = .returned (.bool true) ∧ Below w.heap.size w w' := by
  have c5 := awake8
  have hsm := cell_set_map
  have hself := A4_self V
  have hD' : ((B D).size : Int) ≤ 3900 := by omega
  unfold DV A4 at *
  go_enter Tryz.func3, Tryz.ntmps3
  go_wp2_with (first
    | (go_at_call 5; refine (c5 _ (hT.go bgo) (hT10.next bgo)).mono ?_; rintro r w1 ⟨rfl, hb1⟩; obtain ⟨hc1, hf1⟩ := bcell hb1; have hz1_0 : w.heap.size < w1.heap.size := lt_below hb1 ltg; have hl1_0 := Nat.le_of_lt hz1_0; have hA1 := bnext (w0 := w) bgo hb1; have hs1 := hA1.size; clear hb1)
    | (go_at_call 6; refine (c6 _).mono ?_; rintro r w2 ⟨rfl, hb2⟩; obtain ⟨hc2, hf2⟩ := bcell hb2; have hz2_0 : w.heap.size < w2.heap.size := lt_below hb2 ltg; have hl2_0 := Nat.le_of_lt hz2_0; have hA2 := bnext (w0 := w) bgo hb2; have hs2 := hA2.size; clear hb2)
    | (go_at_call 7; refine (c7 _).mono ?_; rintro r w3 ⟨rfl, rfl⟩)
    | (go_at_call 8; refine (c8 _).mono ?_; rintro r w3 ⟨v3, rfl, hv3, hb3⟩; obtain ⟨hc3, hf3⟩ := bcell hb3; have hz3_0 : w.heap.size < w3.heap.size := lt_below hb3 ltg; have hl3_0 := Nat.le_of_lt hz3_0; have hz3_1 : w2.heap.size < w3.heap.size := lt_below hb3 ltg; have hl3_1 := Nat.le_of_lt hz3_1; have hA3 := bnext (w0 := w) bgo hb3; have hs3 := hA3.size; clear hb3))
  refine regE9 (h4 := w2.heap.size) (k := k) rfl rfl rfl hv3 hxb (by assumption) (by go_simp) c11 c10 ?_
  intro a' w4 v4 h9 h10 hv4 hsz hdf hF hb4
  have ha := act_of slotsAE9 10 rfl hsz hdf hF
  rw [ha]
  simp only [slotsAE9, List.foldl_cons, List.foldl_nil, Act.put, List.setIfInBounds_toArray, List.set_cons_succ, List.set_cons_zero, h9, h10]
  generalize slot a' 40 = s40
  generalize slot a' 41 = s41
  generalize slot a' 42 = s42
  generalize slot a' 43 = s43
  generalize slot a' 44 = s44
  generalize slot a' 45 = s45
  generalize slot a' 46 = s46
  generalize slot a' 47 = s47
  clear ha h9 h10 hsz hdf hF
  obtain ⟨hc4, hf4⟩ := bcell hb4; have hz4_0 : w.heap.size < w4.heap.size := lt_below hb4 ltg; have hl4_0 := Nat.le_of_lt hz4_0; have hz4_1 : w2.heap.size < w4.heap.size := lt_below hb4 ltg; have hl4_1 := Nat.le_of_lt hz4_1; have hA4 := bnext (w0 := w) bgo hb4; have hs4 := hA4.size; clear hb4
  go_wp2_with (first
    | (go_at_call 12; refine (c12 _ _ hv4).mono ?_; rintro r w5 ⟨rfl, hb5⟩; obtain ⟨hc5, hf5⟩ := bcell hb5; have hz5_0 : w.heap.size < w5.heap.size := lt_below hb5 ltg; have hl5_0 := Nat.le_of_lt hz5_0; have hz5_1 : w2.heap.size < w5.heap.size := lt_below hb5 ltg; have hl5_1 := Nat.le_of_lt hz5_1; have hA5 := bnext (w0 := w) bgo hb5; have hs5 := hA5.size; clear hb5)
    | (go_at_call 14; refine (c14 _ (hT10.next bgo)).mono ?_; rintro r w6 ⟨rfl, hb6⟩; obtain ⟨hc6, hf6⟩ := bcell hb6; have hz6_0 : w.heap.size < w6.heap.size := lt_below hb6 ltg; have hl6_0 := Nat.le_of_lt hz6_0; have hz6_1 : w2.heap.size < w6.heap.size := lt_below hb6 ltg; have hl6_1 := Nat.le_of_lt hz6_1; have hA6 := bnext (w0 := w) bgo hb6; have hs6 := hA6.size; clear hb6)
    | (go_at_call 13; refine (c13 _ (hT.go bgo) (hT10.next bgo)).mono ?_; rintro r w7 ⟨rfl, hb7⟩; obtain ⟨hc7, hf7⟩ := bcell hb7; have hz7_0 : w.heap.size < w7.heap.size := lt_below hb7 ltg; have hl7_0 := Nat.le_of_lt hz7_0; have hz7_1 : w2.heap.size < w7.heap.size := lt_below hb7 ltg; have hl7_1 := Nat.le_of_lt hz7_1; have hA7 := bnext (w0 := w) bgo hb7; have hs7 := hA7.size; clear hb7))
  go_ret
  exact ⟨by simp, bgo⟩
end
end Go.Proofs.YtpfnfaekgaipjaaGreatDoor
