/-
  Texts that the proof leans on, joined: Sg9.
-/
import Derived.Test.YtoobncgmcnmgjaaGreatDoorL30
import Derived.Test.YtoobncgmcnmgjaaGreatDoorL1
set_option linter.unusedVariables false
set_option linter.unusedSectionVars false
set_option linter.unusedSimpArgs false
set_option maxRecDepth 20000
namespace Go.Proofs.YtoobncgmcnmgjaaGreatDoor
open Go.RowKit

attribute [local irreducible] W4 Nz Nt NT
section
variable (g : Nat) (vn vb va vw : Value) (c : Bool) (w : World) (hR : Rch g vn vb va vw c w) (D Rm S A B C : Nat) (hD : D ≤ 9)
  (c99 : Calls Tryz.prog 100 #[.pointer (some ⟨g, 0, none⟩)] w fun r w' => ∃ v, r = .returned (.tuple #[.int .u64 (D : Int), v]) ∧ Nz 2001 Rm v w' ∧ Below w.heap.size w w')
  (c101 : ∀ W v, Below w.heap.size w W → Nz 2001 Rm v W → Calls Tryz.prog 102 #[v, va] W fun e w' => ∃ v, e = .returned v ∧ Nz 4003 S v w' ∧ Below W.heap.size W w')
  (c97r : ∀ W v, Nz 2001 Rm v W → Calls Tryz.prog 98 #[v, .int .u64 10] W fun e w' => ∃ v, e = .returned v ∧ NT 2001 A v w' ∧ Below W.heap.size W w')
  (c97b : ∀ W, Mut g w W → Calls Tryz.prog 98 #[vb, .int .u64 10] W fun e w' => ∃ v, e = .returned v ∧ NT 2001 B v w' ∧ Below W.heap.size W w')
  (c97a : ∀ W, Mut g w W → Calls Tryz.prog 98 #[va, .int .u64 10] W fun e w' => ∃ v, e = .returned v ∧ NT 2001 C v w' ∧ Below W.heap.size W w')
include hR hD c99 c101 c97r c97b c97a
set_option maxHeartbeats 4000000 in
theorem next_ff
    (c100l : ∀ W v, Below w.heap.size w W → Nz 2001 Rm v W → Calls Tryz.prog 101 #[.pointer (some ⟨g, 0, none⟩), v, vb] W fun e w' => e = .returned (.bool false) ∧ Below W.heap.size W w')
    (c100h : ∀ W v, Below w.heap.size w W → Nz 4003 S v W → Calls Tryz.prog 101 #[.pointer (some ⟨g, 0, none⟩), vw, v] W fun e w' => ∃ u, e = .returned u ∧ u = .bool false ∧ Below W.heap.size W w')
    : Calls Tryz.prog 64 #[.pointer (some ⟨g, 0, none⟩)] w fun r w' => ∃ v0 v1 v2, r = .returned (.tuple #[.int .u64 (D : Int), .bool false]) ∧ Rch g v0 v1 v2 vw c w' ∧ NT 2001 A v0 w' ∧ NT 2001 B v1 w' ∧ NT 2001 C v2 w' ∧ Mut g w w' := by
  have hlt := hR.lt
  obtain ⟨k0, k1, k2, k3, k4⟩ := hR.cells
  go_enter Tryz.func64, Tryz.ntmps64
  go_wp2_with (first
    | (go_at_call 100; refine c99.mono ?_; rintro r w1 ⟨v1, rfl, hv1, hb1⟩; obtain ⟨hc1, hf1⟩ := bcell hb1; have hz1_0 : g < w1.heap.size := lt_below hb1 ltg; have hl1_0 := Nat.le_of_lt hz1_0; have hA1 := bnext (w0 := w) bgo hb1; have hs1 := hA1.size; clear hb1)
    | (go_at_call 101; refine (c100l _ _ hA1 hv1).mono ?_; rintro r w2 ⟨rfl, hb2⟩; have hv2 := hv1.next hb2; obtain ⟨hc2, hf2⟩ := bcell hb2; have hz2_0 : g < w2.heap.size := lt_below hb2 ltg; have hl2_0 := Nat.le_of_lt hz2_0; have hA2 := bnext (w0 := w) bgo hb2; have hs2 := hA2.size; clear hb2))
  have hR2 := hR.next hA2
  clear hc1 hf1 hc2 hf2
  refine regN3 (g := g) (A := S) (high := false) rfl rfl rfl hR2 (fun W hW => c101 W _ (bnx hA2 hW) (hv2.next hW)) (fun W v hW hv => c100h W v (bnx hA2 hW) hv) ?_
  intro a w3 h6 hsz hdf hF hb3
  have ha := act_of slotsAN3 13 rfl hsz hdf hF
  rw [ha]
  simp only [slotsAN3, List.foldl_cons, List.foldl_nil, Act.put, List.setIfInBounds_toArray, List.set_cons_succ, List.set_cons_zero, h6]
  generalize slot a 20 = s20
  generalize slot a 21 = s21
  generalize slot a 22 = s22
  generalize slot a 23 = s23
  generalize slot a 24 = s24
  generalize slot a 25 = s25
  generalize slot a 26 = s26
  generalize slot a 27 = s27
  generalize slot a 28 = s28
  generalize slot a 29 = s29
  generalize slot a 30 = s30
  generalize slot a 31 = s31
  have hv3 := hv2.next hb3
  have hA3 := bnx hA2 hb3
  clear ha h6 hsz hdf hF hb3
  go_wp2
  have hR3 := hR.next hA3
  have hm3 : Mut g w w3 := Mut.below hA3
  refine regN9 (g := g) (A := A) (B := B) (C := C) rfl rfl rfl hR3 (fun W hW => c97r W _ (hv3.mut hR3 hW)) (fun W hW => c97b W (hm3.trans hW)) (fun W hW => c97a W (hm3.trans hW)) ?_
  intro a' w5 hRw z0 z1 z2 hsz' hdf' hF' hmu
  have ha' := act_of slotsAN9 21 rfl hsz' hdf' hF'
  rw [ha']
  simp only [slotsAN9, List.foldl_cons, List.foldl_nil, Act.put, List.setIfInBounds_toArray, List.set_cons_succ, List.set_cons_zero]
  generalize slot a' 49 = r49
  generalize slot a' 50 = r50
  generalize slot a' 51 = r51
  generalize slot a' 52 = r52
  generalize slot a' 53 = r53 at hRw z0 z1 z2 ⊢
  generalize slot a' 54 = r54
  generalize slot a' 55 = r55
  generalize slot a' 56 = r56
  generalize slot a' 57 = r57
  generalize slot a' 58 = r58 at hRw z0 z1 z2 ⊢
  generalize slot a' 59 = r59
  generalize slot a' 60 = r60
  generalize slot a' 61 = r61
  generalize slot a' 62 = r62
  generalize slot a' 63 = r63 at hRw z0 z1 z2 ⊢
  generalize slot a' 64 = r64
  generalize slot a' 65 = r65
  generalize slot a' 66 = r66
  generalize slot a' 67 = r67
  generalize slot a' 68 = r68
  generalize slot a' 69 = r69
  clear ha' hsz' hdf' hF'
  go_wp2
  exact bodyPost_ret (v := .tuple #[.int .u64 (D : Int), .bool false]) (by simp only [results, Tryz.results64]; go_simp) rfl ⟨_, _, _, rfl, hRw, z0, z1, z2, hm3.trans hmu⟩
set_option maxHeartbeats 4000000 in
theorem next_ft
    (c100l : ∀ W v, Below w.heap.size w W → Nz 2001 Rm v W → Calls Tryz.prog 101 #[.pointer (some ⟨g, 0, none⟩), v, vb] W fun e w' => e = .returned (.bool false) ∧ Below W.heap.size W w')
    (c100h : ∀ W v, Below w.heap.size w W → Nz 4003 S v W → Calls Tryz.prog 101 #[.pointer (some ⟨g, 0, none⟩), vw, v] W fun e w' => ∃ u, e = .returned u ∧ u = .bool true ∧ Below W.heap.size W w')
    : Calls Tryz.prog 64 #[.pointer (some ⟨g, 0, none⟩)] w fun r w' => ∃ v0 v1 v2, r = .returned (.tuple #[.int .u64 ((D : Int) + 1), .bool true]) ∧ Rch g v0 v1 v2 vw c w' ∧ NT 2001 A v0 w' ∧ NT 2001 B v1 w' ∧ NT 2001 C v2 w' ∧ Mut g w w' := by
  have hlt := hR.lt
  obtain ⟨k0, k1, k2, k3, k4⟩ := hR.cells
  go_enter Tryz.func64, Tryz.ntmps64
  go_wp2_with (first
    | (go_at_call 100; refine c99.mono ?_; rintro r w1 ⟨v1, rfl, hv1, hb1⟩; obtain ⟨hc1, hf1⟩ := bcell hb1; have hz1_0 : g < w1.heap.size := lt_below hb1 ltg; have hl1_0 := Nat.le_of_lt hz1_0; have hA1 := bnext (w0 := w) bgo hb1; have hs1 := hA1.size; clear hb1)
    | (go_at_call 101; refine (c100l _ _ hA1 hv1).mono ?_; rintro r w2 ⟨rfl, hb2⟩; have hv2 := hv1.next hb2; obtain ⟨hc2, hf2⟩ := bcell hb2; have hz2_0 : g < w2.heap.size := lt_below hb2 ltg; have hl2_0 := Nat.le_of_lt hz2_0; have hA2 := bnext (w0 := w) bgo hb2; have hs2 := hA2.size; clear hb2))
  have hR2 := hR.next hA2
  clear hc1 hf1 hc2 hf2
  refine regN3 (g := g) (A := S) (high := true) rfl rfl rfl hR2 (fun W hW => c101 W _ (bnx hA2 hW) (hv2.next hW)) (fun W v hW hv => c100h W v (bnx hA2 hW) hv) ?_
  intro a w3 h6 hsz hdf hF hb3
  have ha := act_of slotsAN3 13 rfl hsz hdf hF
  rw [ha]
  simp only [slotsAN3, List.foldl_cons, List.foldl_nil, Act.put, List.setIfInBounds_toArray, List.set_cons_succ, List.set_cons_zero, h6]
  generalize slot a 20 = s20
  generalize slot a 21 = s21
  generalize slot a 22 = s22
  generalize slot a 23 = s23
  generalize slot a 24 = s24
  generalize slot a 25 = s25
  generalize slot a 26 = s26
  generalize slot a 27 = s27
  generalize slot a 28 = s28
  generalize slot a 29 = s29
  generalize slot a 30 = s30
  generalize slot a 31 = s31
  have hv3 := hv2.next hb3
  have hA3 := bnx hA2 hb3
  clear ha h6 hsz hdf hF hb3
  go_wp2
  have hR3 := hR.next hA3
  have hm3 : Mut g w w3 := Mut.below hA3
  refine regN9 (g := g) (A := A) (B := B) (C := C) rfl rfl rfl hR3 (fun W hW => c97r W _ (hv3.mut hR3 hW)) (fun W hW => c97b W (hm3.trans hW)) (fun W hW => c97a W (hm3.trans hW)) ?_
  intro a' w5 hRw z0 z1 z2 hsz' hdf' hF' hmu
  have ha' := act_of slotsAN9 21 rfl hsz' hdf' hF'
  rw [ha']
  simp only [slotsAN9, List.foldl_cons, List.foldl_nil, Act.put, List.setIfInBounds_toArray, List.set_cons_succ, List.set_cons_zero]
  generalize slot a' 49 = r49
  generalize slot a' 50 = r50
  generalize slot a' 51 = r51
  generalize slot a' 52 = r52
  generalize slot a' 53 = r53 at hRw z0 z1 z2 ⊢
  generalize slot a' 54 = r54
  generalize slot a' 55 = r55
  generalize slot a' 56 = r56
  generalize slot a' 57 = r57
  generalize slot a' 58 = r58 at hRw z0 z1 z2 ⊢
  generalize slot a' 59 = r59
  generalize slot a' 60 = r60
  generalize slot a' 61 = r61
  generalize slot a' 62 = r62
  generalize slot a' 63 = r63 at hRw z0 z1 z2 ⊢
  generalize slot a' 64 = r64
  generalize slot a' 65 = r65
  generalize slot a' 66 = r66
  generalize slot a' 67 = r67
  generalize slot a' 68 = r68
  generalize slot a' 69 = r69
  clear ha' hsz' hdf' hF'
  go_wp2
  exact bodyPost_ret (v := .tuple #[.int .u64 ((D : Int) + 1), .bool true]) (by simp only [results, Tryz.results64]; go_simp) rfl ⟨_, _, _, rfl, hRw, z0, z1, z2, hm3.trans hmu⟩
set_option maxHeartbeats 4000000 in
theorem next_tf
    (c100l : ∀ W v, Below w.heap.size w W → Nz 2001 Rm v W → Calls Tryz.prog 101 #[.pointer (some ⟨g, 0, none⟩), v, vb] W fun e w' => e = .returned (.bool true) ∧ Below W.heap.size W w')
    (c100h : ∀ W v, Below w.heap.size w W → Nz 4003 S v W → Calls Tryz.prog 101 #[.pointer (some ⟨g, 0, none⟩), vw, v] W fun e w' => ∃ u, e = .returned u ∧ u = .bool false ∧ Below W.heap.size W w')
    : Calls Tryz.prog 64 #[.pointer (some ⟨g, 0, none⟩)] w fun r w' => ∃ v0 v1 v2, r = .returned (.tuple #[.int .u64 (D : Int), .bool true]) ∧ Rch g v0 v1 v2 vw c w' ∧ NT 2001 A v0 w' ∧ NT 2001 B v1 w' ∧ NT 2001 C v2 w' ∧ Mut g w w' := by
  have hlt := hR.lt
  obtain ⟨k0, k1, k2, k3, k4⟩ := hR.cells
  go_enter Tryz.func64, Tryz.ntmps64
  go_wp2_with (first
    | (go_at_call 100; refine c99.mono ?_; rintro r w1 ⟨v1, rfl, hv1, hb1⟩; obtain ⟨hc1, hf1⟩ := bcell hb1; have hz1_0 : g < w1.heap.size := lt_below hb1 ltg; have hl1_0 := Nat.le_of_lt hz1_0; have hA1 := bnext (w0 := w) bgo hb1; have hs1 := hA1.size; clear hb1)
    | (go_at_call 101; refine (c100l _ _ hA1 hv1).mono ?_; rintro r w2 ⟨rfl, hb2⟩; have hv2 := hv1.next hb2; obtain ⟨hc2, hf2⟩ := bcell hb2; have hz2_0 : g < w2.heap.size := lt_below hb2 ltg; have hl2_0 := Nat.le_of_lt hz2_0; have hA2 := bnext (w0 := w) bgo hb2; have hs2 := hA2.size; clear hb2))
  have hR2 := hR.next hA2
  clear hc1 hf1 hc2 hf2
  refine regN3 (g := g) (A := S) (high := false) rfl rfl rfl hR2 (fun W hW => c101 W _ (bnx hA2 hW) (hv2.next hW)) (fun W v hW hv => c100h W v (bnx hA2 hW) hv) ?_
  intro a w3 h6 hsz hdf hF hb3
  have ha := act_of slotsAN3 13 rfl hsz hdf hF
  rw [ha]
  simp only [slotsAN3, List.foldl_cons, List.foldl_nil, Act.put, List.setIfInBounds_toArray, List.set_cons_succ, List.set_cons_zero, h6]
  generalize slot a 20 = s20
  generalize slot a 21 = s21
  generalize slot a 22 = s22
  generalize slot a 23 = s23
  generalize slot a 24 = s24
  generalize slot a 25 = s25
  generalize slot a 26 = s26
  generalize slot a 27 = s27
  generalize slot a 28 = s28
  generalize slot a 29 = s29
  generalize slot a 30 = s30
  generalize slot a 31 = s31
  have hv3 := hv2.next hb3
  have hA3 := bnx hA2 hb3
  clear ha h6 hsz hdf hF hb3
  go_wp2
  have hR3 := hR.next hA3
  have hm3 : Mut g w w3 := Mut.below hA3
  refine regN9 (g := g) (A := A) (B := B) (C := C) rfl rfl rfl hR3 (fun W hW => c97r W _ (hv3.mut hR3 hW)) (fun W hW => c97b W (hm3.trans hW)) (fun W hW => c97a W (hm3.trans hW)) ?_
  intro a' w5 hRw z0 z1 z2 hsz' hdf' hF' hmu
  have ha' := act_of slotsAN9 21 rfl hsz' hdf' hF'
  rw [ha']
  simp only [slotsAN9, List.foldl_cons, List.foldl_nil, Act.put, List.setIfInBounds_toArray, List.set_cons_succ, List.set_cons_zero]
  generalize slot a' 49 = r49
  generalize slot a' 50 = r50
  generalize slot a' 51 = r51
  generalize slot a' 52 = r52
  generalize slot a' 53 = r53 at hRw z0 z1 z2 ⊢
  generalize slot a' 54 = r54
  generalize slot a' 55 = r55
  generalize slot a' 56 = r56
  generalize slot a' 57 = r57
  generalize slot a' 58 = r58 at hRw z0 z1 z2 ⊢
  generalize slot a' 59 = r59
  generalize slot a' 60 = r60
  generalize slot a' 61 = r61
  generalize slot a' 62 = r62
  generalize slot a' 63 = r63 at hRw z0 z1 z2 ⊢
  generalize slot a' 64 = r64
  generalize slot a' 65 = r65
  generalize slot a' 66 = r66
  generalize slot a' 67 = r67
  generalize slot a' 68 = r68
  generalize slot a' 69 = r69
  clear ha' hsz' hdf' hF'
  go_wp2
  exact bodyPost_ret (v := .tuple #[.int .u64 (D : Int), .bool true]) (by simp only [results, Tryz.results64]; go_simp) rfl ⟨_, _, _, rfl, hRw, z0, z1, z2, hm3.trans hmu⟩
set_option maxHeartbeats 4000000 in
theorem next_tt0
    (c100l : ∀ W v, Below w.heap.size w W → Nz 2001 Rm v W → Calls Tryz.prog 101 #[.pointer (some ⟨g, 0, none⟩), v, vb] W fun e w' => e = .returned (.bool true) ∧ Below W.heap.size W w')
    (c100h : ∀ W v, Below w.heap.size w W → Nz 4003 S v W → Calls Tryz.prog 101 #[.pointer (some ⟨g, 0, none⟩), vw, v] W fun e w' => ∃ u, e = .returned u ∧ u = .bool true ∧ Below W.heap.size W w')
    (odd : Bool) (ho : (bits BinOp.and IntKind.u64 (D : Int) 1 == 1) = odd) (c102 : ∀ W v, Below w.heap.size w W → Nz 2001 Rm v W → Calls Tryz.prog 103 #[.int .i64 0, .bool false, .bool odd, v, vw] W fun e w' => e = .returned (.bool false) ∧ Below W.heap.size W w')
    : Calls Tryz.prog 64 #[.pointer (some ⟨g, 0, none⟩)] w fun r w' => ∃ v0 v1 v2, r = .returned (.tuple #[.int .u64 (D : Int), .bool true]) ∧ Rch g v0 v1 v2 vw c w' ∧ NT 2001 A v0 w' ∧ NT 2001 B v1 w' ∧ NT 2001 C v2 w' ∧ Mut g w w' := by
  have hlt := hR.lt
  obtain ⟨k0, k1, k2, k3, k4⟩ := hR.cells
  subst ho
  go_enter Tryz.func64, Tryz.ntmps64
  go_wp2_with (first
    | (go_at_call 100; refine c99.mono ?_; rintro r w1 ⟨v1, rfl, hv1, hb1⟩; obtain ⟨hc1, hf1⟩ := bcell hb1; have hz1_0 : g < w1.heap.size := lt_below hb1 ltg; have hl1_0 := Nat.le_of_lt hz1_0; have hA1 := bnext (w0 := w) bgo hb1; have hs1 := hA1.size; clear hb1)
    | (go_at_call 101; refine (c100l _ _ hA1 hv1).mono ?_; rintro r w2 ⟨rfl, hb2⟩; have hv2 := hv1.next hb2; obtain ⟨hc2, hf2⟩ := bcell hb2; have hz2_0 : g < w2.heap.size := lt_below hb2 ltg; have hl2_0 := Nat.le_of_lt hz2_0; have hA2 := bnext (w0 := w) bgo hb2; have hs2 := hA2.size; clear hb2))
  have hR2 := hR.next hA2
  clear hc1 hf1 hc2 hf2
  refine regN3 (g := g) (A := S) (high := true) rfl rfl rfl hR2 (fun W hW => c101 W _ (bnx hA2 hW) (hv2.next hW)) (fun W v hW hv => c100h W v (bnx hA2 hW) hv) ?_
  intro a w3 h6 hsz hdf hF hb3
  have ha := act_of slotsAN3 13 rfl hsz hdf hF
  rw [ha]
  simp only [slotsAN3, List.foldl_cons, List.foldl_nil, Act.put, List.setIfInBounds_toArray, List.set_cons_succ, List.set_cons_zero, h6]
  generalize slot a 20 = s20
  generalize slot a 21 = s21
  generalize slot a 22 = s22
  generalize slot a 23 = s23
  generalize slot a 24 = s24
  generalize slot a 25 = s25
  generalize slot a 26 = s26
  generalize slot a 27 = s27
  generalize slot a 28 = s28
  generalize slot a 29 = s29
  generalize slot a 30 = s30
  generalize slot a 31 = s31
  have hv3 := hv2.next hb3
  have hA3 := bnx hA2 hb3
  clear ha h6 hsz hdf hF hb3
  obtain ⟨j0, j1, j2, j3, j4⟩ := (hR.next hA3).cells
  have hlt3 : g < w3.heap.size := (hR.next hA3).lt
  go_wp2_with (go_at_call 103; refine (c102 _ _ hA3 hv3).mono ?_; rintro r w4 ⟨rfl, hb4⟩)
  replace hv3 := hv3.next hb4
  replace hA3 := bnx hA3 hb4
  have hR3 := hR.next hA3
  have hm3 : Mut g w w4 := Mut.below hA3
  refine regN9 (g := g) (A := A) (B := B) (C := C) rfl rfl rfl hR3 (fun W hW => c97r W _ (hv3.mut hR3 hW)) (fun W hW => c97b W (hm3.trans hW)) (fun W hW => c97a W (hm3.trans hW)) ?_
  intro a' w5 hRw z0 z1 z2 hsz' hdf' hF' hmu
  have ha' := act_of slotsAN9 21 rfl hsz' hdf' hF'
  rw [ha']
  simp only [slotsAN9, List.foldl_cons, List.foldl_nil, Act.put, List.setIfInBounds_toArray, List.set_cons_succ, List.set_cons_zero]
  generalize slot a' 49 = r49
  generalize slot a' 50 = r50
  generalize slot a' 51 = r51
  generalize slot a' 52 = r52
  generalize slot a' 53 = r53 at hRw z0 z1 z2 ⊢
  generalize slot a' 54 = r54
  generalize slot a' 55 = r55
  generalize slot a' 56 = r56
  generalize slot a' 57 = r57
  generalize slot a' 58 = r58 at hRw z0 z1 z2 ⊢
  generalize slot a' 59 = r59
  generalize slot a' 60 = r60
  generalize slot a' 61 = r61
  generalize slot a' 62 = r62
  generalize slot a' 63 = r63 at hRw z0 z1 z2 ⊢
  generalize slot a' 64 = r64
  generalize slot a' 65 = r65
  generalize slot a' 66 = r66
  generalize slot a' 67 = r67
  generalize slot a' 68 = r68
  generalize slot a' 69 = r69
  clear ha' hsz' hdf' hF'
  go_wp2
  exact bodyPost_ret (v := .tuple #[.int .u64 (D : Int), .bool true]) (by simp only [results, Tryz.results64]; go_simp) rfl ⟨_, _, _, rfl, hRw, z0, z1, z2, hm3.trans hmu⟩
set_option maxHeartbeats 4000000 in
theorem next_tt1
    (c100l : ∀ W v, Below w.heap.size w W → Nz 2001 Rm v W → Calls Tryz.prog 101 #[.pointer (some ⟨g, 0, none⟩), v, vb] W fun e w' => e = .returned (.bool true) ∧ Below W.heap.size W w')
    (c100h : ∀ W v, Below w.heap.size w W → Nz 4003 S v W → Calls Tryz.prog 101 #[.pointer (some ⟨g, 0, none⟩), vw, v] W fun e w' => ∃ u, e = .returned u ∧ u = .bool true ∧ Below W.heap.size W w')
    (odd : Bool) (ho : (bits BinOp.and IntKind.u64 (D : Int) 1 == 1) = odd) (c102 : ∀ W v, Below w.heap.size w W → Nz 2001 Rm v W → Calls Tryz.prog 103 #[.int .i64 0, .bool false, .bool odd, v, vw] W fun e w' => e = .returned (.bool true) ∧ Below W.heap.size W w')
    : Calls Tryz.prog 64 #[.pointer (some ⟨g, 0, none⟩)] w fun r w' => ∃ v0 v1 v2, r = .returned (.tuple #[.int .u64 ((D : Int) + 1), .bool true]) ∧ Rch g v0 v1 v2 vw c w' ∧ NT 2001 A v0 w' ∧ NT 2001 B v1 w' ∧ NT 2001 C v2 w' ∧ Mut g w w' := by
  have hlt := hR.lt
  obtain ⟨k0, k1, k2, k3, k4⟩ := hR.cells
  subst ho
  go_enter Tryz.func64, Tryz.ntmps64
  go_wp2_with (first
    | (go_at_call 100; refine c99.mono ?_; rintro r w1 ⟨v1, rfl, hv1, hb1⟩; obtain ⟨hc1, hf1⟩ := bcell hb1; have hz1_0 : g < w1.heap.size := lt_below hb1 ltg; have hl1_0 := Nat.le_of_lt hz1_0; have hA1 := bnext (w0 := w) bgo hb1; have hs1 := hA1.size; clear hb1)
    | (go_at_call 101; refine (c100l _ _ hA1 hv1).mono ?_; rintro r w2 ⟨rfl, hb2⟩; have hv2 := hv1.next hb2; obtain ⟨hc2, hf2⟩ := bcell hb2; have hz2_0 : g < w2.heap.size := lt_below hb2 ltg; have hl2_0 := Nat.le_of_lt hz2_0; have hA2 := bnext (w0 := w) bgo hb2; have hs2 := hA2.size; clear hb2))
  have hR2 := hR.next hA2
  clear hc1 hf1 hc2 hf2
  refine regN3 (g := g) (A := S) (high := true) rfl rfl rfl hR2 (fun W hW => c101 W _ (bnx hA2 hW) (hv2.next hW)) (fun W v hW hv => c100h W v (bnx hA2 hW) hv) ?_
  intro a w3 h6 hsz hdf hF hb3
  have ha := act_of slotsAN3 13 rfl hsz hdf hF
  rw [ha]
  simp only [slotsAN3, List.foldl_cons, List.foldl_nil, Act.put, List.setIfInBounds_toArray, List.set_cons_succ, List.set_cons_zero, h6]
  generalize slot a 20 = s20
  generalize slot a 21 = s21
  generalize slot a 22 = s22
  generalize slot a 23 = s23
  generalize slot a 24 = s24
  generalize slot a 25 = s25
  generalize slot a 26 = s26
  generalize slot a 27 = s27
  generalize slot a 28 = s28
  generalize slot a 29 = s29
  generalize slot a 30 = s30
  generalize slot a 31 = s31
  have hv3 := hv2.next hb3
  have hA3 := bnx hA2 hb3
  clear ha h6 hsz hdf hF hb3
  obtain ⟨j0, j1, j2, j3, j4⟩ := (hR.next hA3).cells
  have hlt3 : g < w3.heap.size := (hR.next hA3).lt
  go_wp2_with (go_at_call 103; refine (c102 _ _ hA3 hv3).mono ?_; rintro r w4 ⟨rfl, hb4⟩)
  replace hv3 := hv3.next hb4
  replace hA3 := bnx hA3 hb4
  have hR3 := hR.next hA3
  have hm3 : Mut g w w4 := Mut.below hA3
  refine regN9 (g := g) (A := A) (B := B) (C := C) rfl rfl rfl hR3 (fun W hW => c97r W _ (hv3.mut hR3 hW)) (fun W hW => c97b W (hm3.trans hW)) (fun W hW => c97a W (hm3.trans hW)) ?_
  intro a' w5 hRw z0 z1 z2 hsz' hdf' hF' hmu
  have ha' := act_of slotsAN9 21 rfl hsz' hdf' hF'
  rw [ha']
  simp only [slotsAN9, List.foldl_cons, List.foldl_nil, Act.put, List.setIfInBounds_toArray, List.set_cons_succ, List.set_cons_zero]
  generalize slot a' 49 = r49
  generalize slot a' 50 = r50
  generalize slot a' 51 = r51
  generalize slot a' 52 = r52
  generalize slot a' 53 = r53 at hRw z0 z1 z2 ⊢
  generalize slot a' 54 = r54
  generalize slot a' 55 = r55
  generalize slot a' 56 = r56
  generalize slot a' 57 = r57
  generalize slot a' 58 = r58 at hRw z0 z1 z2 ⊢
  generalize slot a' 59 = r59
  generalize slot a' 60 = r60
  generalize slot a' 61 = r61
  generalize slot a' 62 = r62
  generalize slot a' 63 = r63 at hRw z0 z1 z2 ⊢
  generalize slot a' 64 = r64
  generalize slot a' 65 = r65
  generalize slot a' 66 = r66
  generalize slot a' 67 = r67
  generalize slot a' 68 = r68
  generalize slot a' 69 = r69
  clear ha' hsz' hdf' hF'
  go_wp2
  exact bodyPost_ret (v := .tuple #[.int .u64 ((D : Int) + 1), .bool true]) (by simp only [results, Tryz.results64]; go_simp) rfl ⟨_, _, _, rfl, hRw, z0, z1, z2, hm3.trans hmu⟩
end
end Go.Proofs.YtoobncgmcnmgjaaGreatDoor
