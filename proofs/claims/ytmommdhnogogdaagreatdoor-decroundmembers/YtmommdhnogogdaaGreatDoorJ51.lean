/-
  Texts that the proof leans on, joined: Uu.
-/
import Derived.Test.YtmommdhnogogdaaGreatDoorJ50
import Derived.Test.YtmommdhnogogdaaGreatDoorJ46
import Derived.Test.YtmommdhnogogdaaGreatDoorJ13
import Derived.Test.YtmommdhnogogdaaGreatDoorJ22
import Derived.Test.YtmommdhnogogdaaGreatDoorJ1
set_option linter.unusedVariables false
set_option linter.unusedSectionVars false
set_option linter.unusedSimpArgs false
set_option maxRecDepth 20000
namespace Go.Proofs.YtmommdhnogogdaaGreatDoor
open Go.RowKit
attribute [local irreducible] W4 Nt NT
section
variable (TT : World → Prop) (hTT : ∀ w w', TT w → Below w.heap.size w w' → TT w')
variable (n d y : Int) (B : Nat) (w : World) (hT : TT w)
  (c9 : ∀ W, TT W → Calls Tryz.prog 5 #[] W fun r w' => r = .returned (.bool true) ∧ Below W.heap.size W w')
include hTT hT c9
set_option maxHeartbeats 2000000 in
theorem dmem_d (c13 : ∀ W, Calls Tryz.prog 9 #[.int .i64 d] W fun r w' => r = .returned (.bool false) ∧ W = w') : Calls Tryz.prog 4 #[.int .i64 n, .int .i64 d, A4 B, .int .i64 y] w fun r w' => r = .returned (.bool true) ∧ Below w.heap.size w w' := by
  go_enter Tryz.func4, Tryz.ntmps4
  go_wp2_with (first
    | (go_at_call 5; refine (c9 _ (hTT _ _ hT bgo)).mono ?_; rintro r w1 ⟨rfl, hb1⟩; have hT1 := hTT _ _ (hTT _ _ hT (below1 _ _)) hb1; clear hT; obtain ⟨hc1, hf1⟩ := bcell hb1; have hz1_0 : w.heap.size < w1.heap.size := lt_below hb1 ltg; have hl1_0 := Nat.le_of_lt hz1_0; have hA1 := bnext (w0 := w) bgo hb1; have hs1 := hA1.size; clear hb1)
    | (go_at_call 9; refine (c13 _).mono ?_; rintro r w5 ⟨rfl, rfl⟩)
    | (go_at_call 5; refine (c9 _ hT1).mono ?_; rintro r w2 ⟨rfl, hb2⟩; obtain ⟨hc2, hf2⟩ := bcell hb2; have hz2_0 : w.heap.size < w2.heap.size := lt_below hb2 ltg; have hl2_0 := Nat.le_of_lt hz2_0; have hA2 := bnext (w0 := w) bgo hb2; have hs2 := hA2.size; clear hb2))
  go_ret
  exact ⟨by first | rfl | simp, bgo⟩
variable (c13 : ∀ W, Calls Tryz.prog 9 #[.int .i64 d] W fun r w' => r = .returned (.bool true) ∧ W = w')
  (uc ux : Int) (us ug R0 : Bool) (uk : Nat) (G : Int)
  (c12 : ∀ W, Calls Tryz.prog 8 #[.int .i64 n, A4 B] W fun r w' => r = .returned (.tuple #[DV uc us ug ux uk, .bool R0, .int .i64 G]) ∧ Below W.heap.size W w')
include c13 c12
set_option maxHeartbeats 2000000 in
theorem dmem_g (hG : (G != 0) = true) : Calls Tryz.prog 4 #[.int .i64 n, .int .i64 d, A4 B, .int .i64 y] w fun r w' => r = .returned (.bool true) ∧ Below w.heap.size w w' := by
  have hsm := cell_set_map
  unfold DV at *
  go_enter Tryz.func4, Tryz.ntmps4
  go_wp2_with (first
    | (go_at_call 5; refine (c9 _ (hTT _ _ hT bgo)).mono ?_; rintro r w1 ⟨rfl, hb1⟩; obtain ⟨hc1, hf1⟩ := bcell hb1; have hz1_0 : w.heap.size < w1.heap.size := lt_below hb1 ltg; have hl1_0 := Nat.le_of_lt hz1_0; have hA1 := bnext (w0 := w) bgo hb1; have hs1 := hA1.size; clear hb1)
    | (go_at_call 9; refine (c13 _).mono ?_; rintro r w5 ⟨rfl, rfl⟩)
    | (go_at_call 8; refine (c12 _).mono ?_; rintro r w2 ⟨rfl, hb2⟩; obtain ⟨hc2, hf2⟩ := bcell hb2; have hz2_0 : w.heap.size < w2.heap.size := lt_below hb2 ltg; have hl2_0 := Nat.le_of_lt hz2_0; have hA2 := bnext (w0 := w) bgo hb2; have hs2 := hA2.size; clear hb2))
  go_ret
  exact ⟨by first | rfl | simp, bgo⟩
set_option maxHeartbeats 2000000 in
theorem dmem_c (hG : G = 0) (hc : (uc != 1) = true) : Calls Tryz.prog 4 #[.int .i64 n, .int .i64 d, A4 B, .int .i64 y] w fun r w' => r = .returned (.bool true) ∧ Below w.heap.size w w' := by
  subst hG
  have hsm := cell_set_map
  unfold DV at *
  go_enter Tryz.func4, Tryz.ntmps4
  go_wp2_with (first
    | (go_at_call 5; refine (c9 _ (hTT _ _ hT bgo)).mono ?_; rintro r w1 ⟨rfl, hb1⟩; obtain ⟨hc1, hf1⟩ := bcell hb1; have hz1_0 : w.heap.size < w1.heap.size := lt_below hb1 ltg; have hl1_0 := Nat.le_of_lt hz1_0; have hA1 := bnext (w0 := w) bgo hb1; have hs1 := hA1.size; clear hb1)
    | (go_at_call 9; refine (c13 _).mono ?_; rintro r w5 ⟨rfl, rfl⟩)
    | (go_at_call 8; refine (c12 _).mono ?_; rintro r w2 ⟨rfl, hb2⟩; obtain ⟨hc2, hf2⟩ := bcell hb2; have hz2_0 : w.heap.size < w2.heap.size := lt_below hb2 ltg; have hl2_0 := Nat.le_of_lt hz2_0; have hA2 := bnext (w0 := w) bgo hb2; have hs2 := hA2.size; clear hb2))
  go_ret
  exact ⟨by first | rfl | simp, bgo⟩
set_option maxHeartbeats 2000000 in
theorem dmem_z (hG : G = 0) (hc : uc = 1) (hk : decide (W4 uk 0 = 0 ∧ W4 uk 1 = 0 ∧ W4 uk 2 = 0 ∧ W4 uk 3 = 0) = true) : Calls Tryz.prog 4 #[.int .i64 n, .int .i64 d, A4 B, .int .i64 y] w fun r w' => r = .returned (.bool true) ∧ Below w.heap.size w w' := by
  subst hG hc
  have hsm := cell_set_map
  have hq := eq24 (W4 uk 0) (W4 uk 1) (W4 uk 2) (W4 uk 3) 0 0 0 0
  rw [hk] at hq
  unfold DV at *
  go_enter Tryz.func4, Tryz.ntmps4
  go_wp2_with (first
    | (go_at_call 5; refine (c9 _ (hTT _ _ hT bgo)).mono ?_; rintro r w1 ⟨rfl, hb1⟩; obtain ⟨hc1, hf1⟩ := bcell hb1; have hz1_0 : w.heap.size < w1.heap.size := lt_below hb1 ltg; have hl1_0 := Nat.le_of_lt hz1_0; have hA1 := bnext (w0 := w) bgo hb1; have hs1 := hA1.size; clear hb1)
    | (go_at_call 9; refine (c13 _).mono ?_; rintro r w5 ⟨rfl, rfl⟩)
    | (go_at_call 8; refine (c12 _).mono ?_; rintro r w2 ⟨rfl, hb2⟩; obtain ⟨hc2, hf2⟩ := bcell hb2; have hz2_0 : w.heap.size < w2.heap.size := lt_below hb2 ltg; have hl2_0 := Nat.le_of_lt hz2_0; have hA2 := bnext (w0 := w) bgo hb2; have hs2 := hA2.size; clear hb2))
  go_ret
  exact ⟨by first | rfl | simp, bgo⟩
set_option maxHeartbeats 4000000 in
theorem dmem_k (hG : G = 0) (hc : uc = 1) (huk : uk < 2 ^ 256) (hk : decide (W4 uk 0 = 0 ∧ W4 uk 1 = 0 ∧ W4 uk 2 = 0 ∧ W4 uk 3 = 0) = false)
    (nm : ByteArray) (wd pr ex le mo pa : Int) (dn : Bool) (vx z : Int) (vk A1 B1 T1 T2 : Nat) (hz : vx - ux = z) (hz0 : -100000 ≤ z) (hz1 : z ≤ 100000)
    (cO : ∀ W, Calls Tryz.prog 10 #[.int .i64 n] W fun r w' => r = .returned (.tuple #[IDec n nm wd pr ex le mo pa dn, .int .i64 0]) ∧ Below W.heap.size W w')
    (cD : ∀ W v v', TT W → Nt 4 uk v W → Nt 1 1 v' W → Calls Tryz.prog 11 #[.int .i64 n, .int .i64 d, .bool us, v, v', .int .i64 ux, .int .i64 y] W fun r w' => r = .returned (.tuple #[DV 1 us false vx vk, .int .i64 0, .int .i64 0]) ∧ Below W.heap.size W w')
    (n1 : ∀ W, Calls Tryz.prog 13 #[A4 vk] W fun e w' => ∃ v, e = .returned v ∧ NT 7000 vk v w' ∧ Below W.heap.size W w')
    (s1 : ∀ W u v, NT 7000 vk u W → NT 7000 1 v W → Calls Tryz.prog 12 #[u, v, .int .u64 10, .int .i64 z] W fun e w' => ∃ p q, e = .returned (.tuple #[p, q]) ∧ NT 7000 A1 p w' ∧ NT 7000 B1 q w' ∧ Below W.heap.size W w')
    (n2 : ∀ W, Calls Tryz.prog 13 #[A4 uk] W fun e w' => ∃ v, e = .returned v ∧ NT 7000 uk v w' ∧ Below W.heap.size W w')
    (t1 : ∀ W u v, NT 7000 uk u W → NT 7000 B1 v W → Calls Tryz.prog 15 #[u, v] W fun e w' => ∃ p, e = .returned p ∧ NT 15000 T1 p w' ∧ Below W.heap.size W w')
    (sm : ∀ W u v, NT 7000 A1 u W → NT 15000 T1 v W → Calls Tryz.prog 14 #[u, v] W fun e w' => e = .returned (.bool true) ∧ W = w')
    (cV : ∀ W u v, NT 7000 vk u W → NT 7000 10 v W → Calls Tryz.prog 16 #[u, v] W fun e w' => ∃ q ar kr cr, e = .returned (.tuple #[q, .slice ar kr cr]) ∧ (vx < y → vx < mo → (0 : Int) < (kr : Int)) ∧ Below W.heap.size W w')
    (t2 : ∀ W u v, NT 7000 vk u W → NT 7000 10 v W → Calls Tryz.prog 15 #[u, v] W fun e w' => ∃ p, e = .returned p ∧ NT 7000 T2 p w' ∧ Below W.heap.size W w')
    (b2 : ∀ W u, NT 7000 T2 u W → Calls Tryz.prog 18 #[u] W fun e w' => e = .returned (A4 T2) ∧ Below W.heap.size W w')
    (l2 : y < vx → le < vx → ∀ W, Calls Tryz.prog 17 #[A4 T2, .int .i64 10, .int .i64 pr] W fun e w' => e = .returned (.bool false) ∧ Below W.heap.size W w') :
    Calls Tryz.prog 4 #[.int .i64 n, .int .i64 d, A4 B, .int .i64 y] w fun r w' => r = .returned (.bool true) ∧ Below w.heap.size w w' := by
  subst hG hc
  have hsm := cell_set_map
  have hq := eq24 (W4 uk 0) (W4 uk 1) (W4 uk 2) (W4 uk 3) 0 0 0 0
  rw [hk] at hq
  unfold DV at c12
  go_enter Tryz.func4, Tryz.ntmps4
  go_wp2_with (first
    | (go_at_call 5; refine (c9 _ (hTT _ _ hT bgo)).mono ?_; rintro r w1 ⟨rfl, hb1⟩; obtain ⟨hc1, hf1⟩ := bcell hb1; have hz1_0 : w.heap.size < w1.heap.size := lt_below hb1 ltg; have hl1_0 := Nat.le_of_lt hz1_0; have hA1 := bnext (w0 := w) bgo hb1; have hs1 := hA1.size; clear hb1)
    | (go_at_call 9; refine (c13 _).mono ?_; rintro r w5 ⟨rfl, rfl⟩)
    | (go_at_call 8; refine (c12 _).mono ?_; rintro r w2 ⟨rfl, hb2⟩; obtain ⟨hc2, hf2⟩ := bcell hb2; have hz2_0 : w.heap.size < w2.heap.size := lt_below hb2 ltg; have hl2_0 := Nat.le_of_lt hz2_0; have hA2 := bnext (w0 := w) bgo hb2; have hs2 := hA2.size; clear hb2)
    | (go_at_call 10; refine (cO _).mono ?_; rintro r w3 ⟨rfl, hb3⟩; have hbox := hb3; obtain ⟨hc3, hf3⟩ := bcell hb3; have hz3_0 : w.heap.size < w3.heap.size := lt_below hb3 ltg; have hl3_0 := Nat.le_of_lt hz3_0; have hz3_1 : w2.heap.size < w3.heap.size := lt_below hb3 ltg; have hl3_1 := Nat.le_of_lt hz3_1; have hA3 := bnext (w0 := w) bgo hb3; have hs3 := hA3.size; clear hb3))
  have q2 : w2.heap.size < w3.heap.size + 1 := by omega
  have q3 : w3.heap.size < w3.heap.size + 1 := by omega
  have q0 : w.heap.size < w3.heap.size + 1 := by omega
  have uC := (dat_box (w0 := w2) (t := 28) huk hbox).next (below1 w3 (.cells #[.int .i64 n, .string nm, .int .i64 10, .int .i64 wd, .int .i64 pr, .int .i64 ex, .int .i64 le, .int .i64 mo, .int .i64 pa, .bool dn] 37))
  clear hbox
  refine regM7 hTT (g9 := w2.heap.size) (uk := uk) (vk := vk) (n := n) (d := d) (y := y) (ux := ux) (vc := 1) (vx := vx) (F := 0) (Er := 0) (us := us) (vs := us) (vg := false) rfl (hTT _ _ hT bgo) rfl rfl rfl rfl (by simp; omega) (by go_simp) (by go_simp) uC cD ?_
  intro a7 w7 g h14 h15 h16 hg hD hsz hdf hF7 hb7
  have ha := act_of slotsAM7 19 rfl hsz hdf hF7
  rw [ha]
  simp only [slotsAM7, List.foldl_cons, List.foldl_nil, Act.put, List.setIfInBounds_toArray, List.set_cons_succ, List.set_cons_zero, h14, h15, h16]
  clear ha h14 h15 h16 hsz hdf hF7 uC
  simp only [World.size_alloc] at hg
  obtain ⟨hgl, _, hcs, hfr⟩ := hD
  have p0 : w7.cell? ⟨g, 0, none⟩ = some (.int .i64 1) := hcs 0 (by decide)
  have p1 : w7.cell? ⟨g, 1, none⟩ = some (.bool us) := hcs 1 (by decide)
  have p2 : w7.cell? ⟨g, 2, none⟩ = some (.bool false) := hcs 2 (by decide)
  have p3 : w7.cell? ⟨g, 3, none⟩ = some (.int .i64 vx) := hcs 3 (by decide)
  have p4 : w7.cell? ⟨g, 4, none⟩ = some (.int .u64 (W4 vk 0)) := hcs 4 (by decide)
  have p5 : w7.cell? ⟨g, 5, none⟩ = some (.int .u64 (W4 vk 1)) := hcs 5 (by decide)
  have p6 : w7.cell? ⟨g, 6, none⟩ = some (.int .u64 (W4 vk 2)) := hcs 6 (by decide)
  have p7 : w7.cell? ⟨g, 7, none⟩ = some (.int .u64 (W4 vk 3)) := hcs 7 (by decide)
  clear hcs cD
  obtain ⟨hc7, hf7⟩ := bcell hb7; have hz7_0 : w.heap.size < w7.heap.size := lt_below hb7 ltg; have hl7_0 := Nat.le_of_lt hz7_0; have hz7_1 : w2.heap.size < w7.heap.size := lt_below hb7 ltg; have hl7_1 := Nat.le_of_lt hz7_1; have hz7_2 : w3.heap.size < w7.heap.size := lt_below hb7 ltg; have hl7_2 := Nat.le_of_lt hz7_2; have hA7 := bnext (w0 := w) bgo hb7; have hs7 := hA7.size; clear hb7
  go_wp2
  refine regM10 (g := g) (g2 := w2.heap.size) (k := vk) (A := A1) (B := B1) (x := vx) (x2 := ux) (z := z) (fun _ _ d _ _ h => by cases d <;> exact h) rfl rfl hgl rfl (by omega) (by go_simp) hz0 hz1 hz p3 p4 p5 p6 p7 n1 s1 ?_
  intro a10 w10 u10 v10 h17 h18 hu10 hv10 hsz hdf hF10 hb10
  have ha := act_of slotsAM10 15 rfl hsz hdf hF10
  rw [ha]
  simp only [slotsAM10, List.foldl_cons, List.foldl_nil, Act.put, List.setIfInBounds_toArray, List.set_cons_succ, List.set_cons_zero, h17, h18]
  clear ha h17 h18 hsz hdf hF10 s1
  obtain ⟨hc10, hf10⟩ := bcell hb10; have hz10_0 : w.heap.size < w10.heap.size := lt_below hb10 ltg; have hl10_0 := Nat.le_of_lt hz10_0; have hz10_1 : w2.heap.size < w10.heap.size := lt_below hb10 ltg; have hl10_1 := Nat.le_of_lt hz10_1; have hz10_2 : w3.heap.size < w10.heap.size := lt_below hb10 ltg; have hl10_2 := Nat.le_of_lt hz10_2; have hz10_3 : g < w10.heap.size := lt_below hb10 ltg; have hl10_3 := Nat.le_of_lt hz10_3; have hA10 := bnext (w0 := w) bgo hb10; have hs10 := hA10.size; clear hb10
  by_cases e1 : vx < y ∧ vx < mo
  · obtain ⟨e1, e2⟩ := e1
    go_wp2_with (first
      | (go_at_call 13; refine (n2 _).mono ?_; rintro r w11 ⟨u11, rfl, hu11, hb11⟩; clear n2; have ku := hu10.next hb11; have kv := hv10.next hb11; obtain ⟨hc11, hf11⟩ := bcell hb11; have hz11_0 : w.heap.size < w11.heap.size := lt_below hb11 ltg; have hl11_0 := Nat.le_of_lt hz11_0; have hz11_1 : w2.heap.size < w11.heap.size := lt_below hb11 ltg; have hl11_1 := Nat.le_of_lt hz11_1; have hz11_2 : w3.heap.size < w11.heap.size := lt_below hb11 ltg; have hl11_2 := Nat.le_of_lt hz11_2; have hz11_3 : g < w11.heap.size := lt_below hb11 ltg; have hl11_3 := Nat.le_of_lt hz11_3; have hA11 := bnext (w0 := w) bgo hb11; have hs11 := hA11.size; clear hb11)
      | (go_at_call 15; have tt := t1 _ _ _ hu11 kv; refine tt.mono ?_; clear tt; rintro r w12 ⟨u12, rfl, hu12, hb12⟩; have ku2 := ku.next hb12; obtain ⟨hc12, hf12⟩ := bcell hb12; have hz12_0 : w.heap.size < w12.heap.size := lt_below hb12 ltg; have hl12_0 := Nat.le_of_lt hz12_0; have hz12_1 : w2.heap.size < w12.heap.size := lt_below hb12 ltg; have hl12_1 := Nat.le_of_lt hz12_1; have hz12_2 : w3.heap.size < w12.heap.size := lt_below hb12 ltg; have hl12_2 := Nat.le_of_lt hz12_2; have hz12_3 : g < w12.heap.size := lt_below hb12 ltg; have hl12_3 := Nat.le_of_lt hz12_3; have hA12 := bnext (w0 := w) bgo hb12; have hs12 := hA12.size; clear hb12)
      | (go_at_call 14; have tt := sm _ _ _ ku2 hu12; refine tt.mono ?_; clear tt; rintro r w13 ⟨rfl, rfl⟩)
      | (go_at_call 13; refine (n1 _).mono ?_; rintro r w14 ⟨u14, rfl, hu14, hb14⟩; obtain ⟨hc14, hf14⟩ := bcell hb14; have hz14_0 : w.heap.size < w14.heap.size := lt_below hb14 ltg; have hl14_0 := Nat.le_of_lt hz14_0; have hz14_1 : w2.heap.size < w14.heap.size := lt_below hb14 ltg; have hl14_1 := Nat.le_of_lt hz14_1; have hz14_2 : w3.heap.size < w14.heap.size := lt_below hb14 ltg; have hl14_2 := Nat.le_of_lt hz14_2; have hz14_3 : g < w14.heap.size := lt_below hb14 ltg; have hl14_3 := Nat.le_of_lt hz14_3; have hA14 := bnext (w0 := w) bgo hb14; have hs14 := hA14.size; clear hb14)
      | (go_at_call 16; have tt := cV _ _ _ (hu14.next (below1 _ _)) ((nt_un1 (W := w14) rfl rfl (by decide) (by decide)).more (by decide)); refine tt.mono ?_; clear tt; rintro r w15 ⟨q15, ar, kr, cr, rfl, hkr, hb15⟩; have hkr' := hkr e1 e2; obtain ⟨hc15, hf15⟩ := bcell hb15; have hz15_0 : w.heap.size < w15.heap.size := lt_below hb15 ltg; have hl15_0 := Nat.le_of_lt hz15_0; have hz15_1 : w2.heap.size < w15.heap.size := lt_below hb15 ltg; have hl15_1 := Nat.le_of_lt hz15_1; have hz15_2 : w3.heap.size < w15.heap.size := lt_below hb15 ltg; have hl15_2 := Nat.le_of_lt hz15_2; have hz15_3 : g < w15.heap.size := lt_below hb15 ltg; have hl15_3 := Nat.le_of_lt hz15_3; have hA15 := bnext (w0 := w) bgo hb15; have hs15 := hA15.size; clear hb15))
    go_ret
    exact ⟨by first | rfl | (simp; omega), bgo⟩
  · by_cases e3 : y < vx ∧ le < vx
    · obtain ⟨e3, e4⟩ := e3
      have e5 : ¬ vx < y := by omega
      go_wp2_with (first
        | (go_at_call 13; refine (n2 _).mono ?_; rintro r w11 ⟨u11, rfl, hu11, hb11⟩; clear n2; have ku := hu10.next hb11; have kv := hv10.next hb11; obtain ⟨hc11, hf11⟩ := bcell hb11; have hz11_0 : w.heap.size < w11.heap.size := lt_below hb11 ltg; have hl11_0 := Nat.le_of_lt hz11_0; have hz11_1 : w2.heap.size < w11.heap.size := lt_below hb11 ltg; have hl11_1 := Nat.le_of_lt hz11_1; have hz11_2 : w3.heap.size < w11.heap.size := lt_below hb11 ltg; have hl11_2 := Nat.le_of_lt hz11_2; have hz11_3 : g < w11.heap.size := lt_below hb11 ltg; have hl11_3 := Nat.le_of_lt hz11_3; have hA11 := bnext (w0 := w) bgo hb11; have hs11 := hA11.size; clear hb11)
        | (go_at_call 15; have tt := t1 _ _ _ hu11 kv; refine tt.mono ?_; clear tt; rintro r w12 ⟨u12, rfl, hu12, hb12⟩; have ku2 := ku.next hb12; obtain ⟨hc12, hf12⟩ := bcell hb12; have hz12_0 : w.heap.size < w12.heap.size := lt_below hb12 ltg; have hl12_0 := Nat.le_of_lt hz12_0; have hz12_1 : w2.heap.size < w12.heap.size := lt_below hb12 ltg; have hl12_1 := Nat.le_of_lt hz12_1; have hz12_2 : w3.heap.size < w12.heap.size := lt_below hb12 ltg; have hl12_2 := Nat.le_of_lt hz12_2; have hz12_3 : g < w12.heap.size := lt_below hb12 ltg; have hl12_3 := Nat.le_of_lt hz12_3; have hA12 := bnext (w0 := w) bgo hb12; have hs12 := hA12.size; clear hb12)
        | (go_at_call 14; have tt := sm _ _ _ ku2 hu12; refine tt.mono ?_; clear tt; rintro r w13 ⟨rfl, rfl⟩))
      have hg12 : g < w12.heap.size := by omega
      have hi12 : w3.heap.size < w12.heap.size := by omega
      refine regM17 (g := g) (gi := w3.heap.size) (k := vk) (T := T2) (pr := pr) (R := false) (fun _ _ d _ _ h => by cases d <;> exact h) rfl rfl hg12 rfl hi12 (by go_simp) (by go_simp) (by go_simp) (by go_simp) (by go_simp) n1 t2 b2 (l2 e3 e4) ?_
      intro a17 w17 h8 hsz hdf hF17 hb17
      have ha := act_of slotsAM17 11 rfl hsz hdf hF17
      rw [ha]
      simp only [slotsAM17, List.foldl_cons, List.foldl_nil, Act.put, List.setIfInBounds_toArray, List.set_cons_succ, List.set_cons_zero, h8]
      clear ha h8 hsz hdf hF17
      obtain ⟨hc17, hf17⟩ := bcell hb17; have hA17 := bnext (w0 := w) bgo hb17; have hs17 := hA17.size; clear hb17
      go_wp2
      go_ret
      exact ⟨by first | rfl | simp, bgo⟩
    · by_cases e5 : vx < y
      · have e6 : ¬ vx < mo := fun q => e1 ⟨e5, q⟩
        have e7 : ¬ y < vx := by omega
        go_wp2_with (first
          | (go_at_call 13; refine (n2 _).mono ?_; rintro r w11 ⟨u11, rfl, hu11, hb11⟩; clear n2; have ku := hu10.next hb11; have kv := hv10.next hb11; obtain ⟨hc11, hf11⟩ := bcell hb11; have hz11_0 : w.heap.size < w11.heap.size := lt_below hb11 ltg; have hl11_0 := Nat.le_of_lt hz11_0; have hz11_1 : w2.heap.size < w11.heap.size := lt_below hb11 ltg; have hl11_1 := Nat.le_of_lt hz11_1; have hz11_2 : w3.heap.size < w11.heap.size := lt_below hb11 ltg; have hl11_2 := Nat.le_of_lt hz11_2; have hz11_3 : g < w11.heap.size := lt_below hb11 ltg; have hl11_3 := Nat.le_of_lt hz11_3; have hA11 := bnext (w0 := w) bgo hb11; have hs11 := hA11.size; clear hb11)
          | (go_at_call 15; have tt := t1 _ _ _ hu11 kv; refine tt.mono ?_; clear tt; rintro r w12 ⟨u12, rfl, hu12, hb12⟩; have ku2 := ku.next hb12; obtain ⟨hc12, hf12⟩ := bcell hb12; have hz12_0 : w.heap.size < w12.heap.size := lt_below hb12 ltg; have hl12_0 := Nat.le_of_lt hz12_0; have hz12_1 : w2.heap.size < w12.heap.size := lt_below hb12 ltg; have hl12_1 := Nat.le_of_lt hz12_1; have hz12_2 : w3.heap.size < w12.heap.size := lt_below hb12 ltg; have hl12_2 := Nat.le_of_lt hz12_2; have hz12_3 : g < w12.heap.size := lt_below hb12 ltg; have hl12_3 := Nat.le_of_lt hz12_3; have hA12 := bnext (w0 := w) bgo hb12; have hs12 := hA12.size; clear hb12)
          | (go_at_call 14; have tt := sm _ _ _ ku2 hu12; refine tt.mono ?_; clear tt; rintro r w13 ⟨rfl, rfl⟩))
        go_ret
        exact ⟨by first | rfl | simp, bgo⟩
      · by_cases e6 : y < vx
        · have e7 : ¬ le < vx := fun q => e3 ⟨e6, q⟩
          go_wp2_with (first
            | (go_at_call 13; refine (n2 _).mono ?_; rintro r w11 ⟨u11, rfl, hu11, hb11⟩; clear n2; have ku := hu10.next hb11; have kv := hv10.next hb11; obtain ⟨hc11, hf11⟩ := bcell hb11; have hz11_0 : w.heap.size < w11.heap.size := lt_below hb11 ltg; have hl11_0 := Nat.le_of_lt hz11_0; have hz11_1 : w2.heap.size < w11.heap.size := lt_below hb11 ltg; have hl11_1 := Nat.le_of_lt hz11_1; have hz11_2 : w3.heap.size < w11.heap.size := lt_below hb11 ltg; have hl11_2 := Nat.le_of_lt hz11_2; have hz11_3 : g < w11.heap.size := lt_below hb11 ltg; have hl11_3 := Nat.le_of_lt hz11_3; have hA11 := bnext (w0 := w) bgo hb11; have hs11 := hA11.size; clear hb11)
            | (go_at_call 15; have tt := t1 _ _ _ hu11 kv; refine tt.mono ?_; clear tt; rintro r w12 ⟨u12, rfl, hu12, hb12⟩; have ku2 := ku.next hb12; obtain ⟨hc12, hf12⟩ := bcell hb12; have hz12_0 : w.heap.size < w12.heap.size := lt_below hb12 ltg; have hl12_0 := Nat.le_of_lt hz12_0; have hz12_1 : w2.heap.size < w12.heap.size := lt_below hb12 ltg; have hl12_1 := Nat.le_of_lt hz12_1; have hz12_2 : w3.heap.size < w12.heap.size := lt_below hb12 ltg; have hl12_2 := Nat.le_of_lt hz12_2; have hz12_3 : g < w12.heap.size := lt_below hb12 ltg; have hl12_3 := Nat.le_of_lt hz12_3; have hA12 := bnext (w0 := w) bgo hb12; have hs12 := hA12.size; clear hb12)
            | (go_at_call 14; have tt := sm _ _ _ ku2 hu12; refine tt.mono ?_; clear tt; rintro r w13 ⟨rfl, rfl⟩))
          go_ret
          exact ⟨by first | rfl | simp, bgo⟩
        · go_wp2_with (first
            | (go_at_call 13; refine (n2 _).mono ?_; rintro r w11 ⟨u11, rfl, hu11, hb11⟩; clear n2; have ku := hu10.next hb11; have kv := hv10.next hb11; obtain ⟨hc11, hf11⟩ := bcell hb11; have hz11_0 : w.heap.size < w11.heap.size := lt_below hb11 ltg; have hl11_0 := Nat.le_of_lt hz11_0; have hz11_1 : w2.heap.size < w11.heap.size := lt_below hb11 ltg; have hl11_1 := Nat.le_of_lt hz11_1; have hz11_2 : w3.heap.size < w11.heap.size := lt_below hb11 ltg; have hl11_2 := Nat.le_of_lt hz11_2; have hz11_3 : g < w11.heap.size := lt_below hb11 ltg; have hl11_3 := Nat.le_of_lt hz11_3; have hA11 := bnext (w0 := w) bgo hb11; have hs11 := hA11.size; clear hb11)
            | (go_at_call 15; have tt := t1 _ _ _ hu11 kv; refine tt.mono ?_; clear tt; rintro r w12 ⟨u12, rfl, hu12, hb12⟩; have ku2 := ku.next hb12; obtain ⟨hc12, hf12⟩ := bcell hb12; have hz12_0 : w.heap.size < w12.heap.size := lt_below hb12 ltg; have hl12_0 := Nat.le_of_lt hz12_0; have hz12_1 : w2.heap.size < w12.heap.size := lt_below hb12 ltg; have hl12_1 := Nat.le_of_lt hz12_1; have hz12_2 : w3.heap.size < w12.heap.size := lt_below hb12 ltg; have hl12_2 := Nat.le_of_lt hz12_2; have hz12_3 : g < w12.heap.size := lt_below hb12 ltg; have hl12_3 := Nat.le_of_lt hz12_3; have hA12 := bnext (w0 := w) bgo hb12; have hs12 := hA12.size; clear hb12)
            | (go_at_call 14; have tt := sm _ _ _ ku2 hu12; refine tt.mono ?_; clear tt; rintro r w13 ⟨rfl, rfl⟩))
          go_ret
          exact ⟨by first | rfl | simp, bgo⟩
end
end Go.Proofs.YtmommdhnogogdaaGreatDoor
