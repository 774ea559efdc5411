/-
  Texts that the proof leans on, joined: Xa, Mk, Kb, Kc, Ord, Oc.
-/
import Derived.Test.YtplocajjfoiklaaGreatDoorR34
import Derived.Test.YtplocajjfoiklaaGreatDoorR36
import Derived.Test.YtplocajjfoiklaaGreatDoorR24
import Derived.Lib.RabinKarpLaws
import Derived.Test.YtplocajjfoiklaaGreatDoorR37
import Derived.Deep.Cut
import Derived.Deep.CutRange
import Derived.Deep.RegionWith
import Derived.Test.YtplocajjfoiklaaGreatDoorR1
import Derived.Test.YtplocajjfoiklaaGreatDoorR27
import Derived.Test.YtplocajjfoiklaaGreatDoorR11
import Derived.Test.YtplocajjfoiklaaGreatDoorR30
import Derived.StillTail
import Derived.Below
import Derived.WalkKit
set_option maxHeartbeats 8000000
set_option linter.unusedVariables false
set_option linter.unusedSectionVars false
set_option linter.unusedSimpArgs false
set_option maxRecDepth 20000
namespace Go.Proofs.YtplocajjfoiklaaGreatDoor
open Go.RowKit
section
theorem cpy1 (W : World) (g b off cap : Nat) (v0 : Int) (h0 : W.cell? ⟨b, off, none⟩ = some (.int .u64 v0)) (c0 : (W.cell? ⟨g, 0, none⟩).isSome = true) (f0 : W.frozen? ⟨g, 0, none⟩ = false) :
  Sem.run Tryz.prog (Builtin.copy_ #[49, 49] 3 #[.slice (some ⟨g, 0, none⟩) 4 4, .slice (some ⟨b, off, none⟩) 1 cap]) W = .ok (.int .i64 1) (W.setCell ⟨g, 0, none⟩ (.int .u64 v0)) := by
 have := run_copy_cells (P := Tryz.prog) W 49 49 3 22 g 0 4 4 ⟨b, off, none⟩ 1 cap [.int .u64 v0] Tryz.underlying49 (by kernel_rfl) rfl ?_ ?_ ?_ ?_
 ·exact this
 ·intro j v
  match j, v with
  | 0, _ => intro h; cases h; simpa [Addr.add] using h0
  | (j + 1), _ => intro h; simp at h
 ·intro j hj
  match j, hj with
  | 0, _ => simpa using c0
  | (j + 1), h => exact absurd h (by simp only [List.length_cons, List.length_nil]; omega)
 ·intro j hj
  match j, hj with
  | 0, _ => simpa using f0
  | (j + 1), h => exact absurd h (by simp only [List.length_cons, List.length_nil]; omega)
 ·intro v hv
  simp at hv
  first | (subst hv; rfl) | (rcases hv with rfl | rfl <;> rfl) | (rcases hv with rfl | rfl | rfl <;> rfl) | (rcases hv with rfl | rfl | rfl | rfl <;> rfl)
theorem cpy2 (W : World) (g b off cap : Nat) (v0 v1 : Int) (h0 : W.cell? ⟨b, off, none⟩ = some (.int .u64 v0)) (h1 : W.cell? ⟨b, off + 1, none⟩ = some (.int .u64 v1)) (c0 : (W.cell? ⟨g, 0, none⟩).isSome = true) (f0 : W.frozen? ⟨g, 0, none⟩ = false) (c1 : (W.cell? ⟨g, 1, none⟩).isSome = true) (f1 : W.frozen? ⟨g, 1, none⟩ = false) :
  Sem.run Tryz.prog (Builtin.copy_ #[49, 49] 3 #[.slice (some ⟨g, 0, none⟩) 4 4, .slice (some ⟨b, off, none⟩) 2 cap]) W = .ok (.int .i64 2) ((W.setCell ⟨g, 0, none⟩ (.int .u64 v0)).setCell ⟨g, 1, none⟩ (.int .u64 v1)) := by
 have := run_copy_cells (P := Tryz.prog) W 49 49 3 22 g 0 4 4 ⟨b, off, none⟩ 2 cap [.int .u64 v0, .int .u64 v1] Tryz.underlying49 (by kernel_rfl) rfl ?_ ?_ ?_ ?_
 ·exact this
 ·intro j v
  match j, v with
  | 0, _ => intro h; cases h; simpa [Addr.add] using h0
  | 1, _ => intro h; cases h; simpa [Addr.add] using h1
  | (j + 2), _ => intro h; simp at h
 ·intro j hj
  match j, hj with
  | 0, _ => simpa using c0
  | 1, _ => simpa using c1
  | (j + 2), h => exact absurd h (by simp only [List.length_cons, List.length_nil]; omega)
 ·intro j hj
  match j, hj with
  | 0, _ => simpa using f0
  | 1, _ => simpa using f1
  | (j + 2), h => exact absurd h (by simp only [List.length_cons, List.length_nil]; omega)
 ·intro v hv
  simp at hv
  first | (subst hv; rfl) | (rcases hv with rfl | rfl <;> rfl) | (rcases hv with rfl | rfl | rfl <;> rfl) | (rcases hv with rfl | rfl | rfl | rfl <;> rfl)
theorem cpy3 (W : World) (g b off cap : Nat) (v0 v1 v2 : Int) (h0 : W.cell? ⟨b, off, none⟩ = some (.int .u64 v0)) (h1 : W.cell? ⟨b, off + 1, none⟩ = some (.int .u64 v1)) (h2 : W.cell? ⟨b, off + 2, none⟩ = some (.int .u64 v2)) (c0 : (W.cell? ⟨g, 0, none⟩).isSome = true) (f0 : W.frozen? ⟨g, 0, none⟩ = false) (c1 : (W.cell? ⟨g, 1, none⟩).isSome = true) (f1 : W.frozen? ⟨g, 1, none⟩ = false) (c2 : (W.cell? ⟨g, 2, none⟩).isSome = true) (f2 : W.frozen? ⟨g, 2, none⟩ = false) :
  Sem.run Tryz.prog (Builtin.copy_ #[49, 49] 3 #[.slice (some ⟨g, 0, none⟩) 4 4, .slice (some ⟨b, off, none⟩) 3 cap]) W = .ok (.int .i64 3) (((W.setCell ⟨g, 0, none⟩ (.int .u64 v0)).setCell ⟨g, 1, none⟩ (.int .u64 v1)).setCell ⟨g, 2, none⟩ (.int .u64 v2)) := by
 have := run_copy_cells (P := Tryz.prog) W 49 49 3 22 g 0 4 4 ⟨b, off, none⟩ 3 cap [.int .u64 v0, .int .u64 v1, .int .u64 v2] Tryz.underlying49 (by kernel_rfl) rfl ?_ ?_ ?_ ?_
 ·exact this
 ·intro j v
  match j, v with
  | 0, _ => intro h; cases h; simpa [Addr.add] using h0
  | 1, _ => intro h; cases h; simpa [Addr.add] using h1
  | 2, _ => intro h; cases h; simpa [Addr.add] using h2
  | (j + 3), _ => intro h; simp at h
 ·intro j hj
  match j, hj with
  | 0, _ => simpa using c0
  | 1, _ => simpa using c1
  | 2, _ => simpa using c2
  | (j + 3), h => exact absurd h (by simp only [List.length_cons, List.length_nil]; omega)
 ·intro j hj
  match j, hj with
  | 0, _ => simpa using f0
  | 1, _ => simpa using f1
  | 2, _ => simpa using f2
  | (j + 3), h => exact absurd h (by simp only [List.length_cons, List.length_nil]; omega)
 ·intro v hv
  simp at hv
  first | (subst hv; rfl) | (rcases hv with rfl | rfl <;> rfl) | (rcases hv with rfl | rfl | rfl <;> rfl) | (rcases hv with rfl | rfl | rfl | rfl <;> rfl)
theorem cpy4 (W : World) (g b off cap : Nat) (v0 v1 v2 v3 : Int) (h0 : W.cell? ⟨b, off, none⟩ = some (.int .u64 v0)) (h1 : W.cell? ⟨b, off + 1, none⟩ = some (.int .u64 v1)) (h2 : W.cell? ⟨b, off + 2, none⟩ = some (.int .u64 v2)) (h3 : W.cell? ⟨b, off + 3, none⟩ = some (.int .u64 v3)) (c0 : (W.cell? ⟨g, 0, none⟩).isSome = true) (f0 : W.frozen? ⟨g, 0, none⟩ = false) (c1 : (W.cell? ⟨g, 1, none⟩).isSome = true) (f1 : W.frozen? ⟨g, 1, none⟩ = false) (c2 : (W.cell? ⟨g, 2, none⟩).isSome = true) (f2 : W.frozen? ⟨g, 2, none⟩ = false) (c3 : (W.cell? ⟨g, 3, none⟩).isSome = true) (f3 : W.frozen? ⟨g, 3, none⟩ = false) :
  Sem.run Tryz.prog (Builtin.copy_ #[49, 49] 3 #[.slice (some ⟨g, 0, none⟩) 4 4, .slice (some ⟨b, off, none⟩) 4 cap]) W = .ok (.int .i64 4) ((((W.setCell ⟨g, 0, none⟩ (.int .u64 v0)).setCell ⟨g, 1, none⟩ (.int .u64 v1)).setCell ⟨g, 2, none⟩ (.int .u64 v2)).setCell ⟨g, 3, none⟩ (.int .u64 v3)) := by
 have := run_copy_cells (P := Tryz.prog) W 49 49 3 22 g 0 4 4 ⟨b, off, none⟩ 4 cap [.int .u64 v0, .int .u64 v1, .int .u64 v2, .int .u64 v3] Tryz.underlying49 (by kernel_rfl) rfl ?_ ?_ ?_ ?_
 ·exact this
 ·intro j v
  match j, v with
  | 0, _ => intro h; cases h; simpa [Addr.add] using h0
  | 1, _ => intro h; cases h; simpa [Addr.add] using h1
  | 2, _ => intro h; cases h; simpa [Addr.add] using h2
  | 3, _ => intro h; cases h; simpa [Addr.add] using h3
  | (j + 4), _ => intro h; simp at h
 ·intro j hj
  match j, hj with
  | 0, _ => simpa using c0
  | 1, _ => simpa using c1
  | 2, _ => simpa using c2
  | 3, _ => simpa using c3
  | (j + 4), h => exact absurd h (by simp only [List.length_cons, List.length_nil]; omega)
 ·intro j hj
  match j, hj with
  | 0, _ => simpa using f0
  | 1, _ => simpa using f1
  | 2, _ => simpa using f2
  | 3, _ => simpa using f3
  | (j + 4), h => exact absurd h (by simp only [List.length_cons, List.length_nil]; omega)
 ·intro v hv
  simp at hv
  first | (subst hv; rfl) | (rcases hv with rfl | rfl <;> rfl) | (rcases hv with rfl | rfl | rfl <;> rfl) | (rcases hv with rfl | rfl | rfl | rfl <;> rfl)
attribute [local irreducible] W4 Nz Nt
section
variable (n d : Int) (nm : ByteArray) (wd : Int) (f e : Nat) (l m : Int) (w : World) (hT : Tab w)
include hT
variable (c54 : ∀ W, Tab W → Calls Tryz.prog 32 #[.int .i64 n] W fun r w' => r = .returned (.tuple #[DI n nm wd f e l m, .int .i64 0]) ∧ Below W.heap.size W w')
include c54
theorem rck_k (hd : decide (knB d) = true) : Calls Tryz.prog 47 #[.int .i64 n, .int .i64 d] w fun r w' => r = .returned (.tuple #[DI n nm wd f e l m, .int .i64 0]) ∧ Below w.heap.size w w' := by
 have hsm := cell_set_map
 have c55 := known_any d
 rw [hd] at c55
 go_enter Tryz.func47, Tryz.ntmps47
 go_wp2_with (first
  | (go_at_call 32; refine (c54 _ (hT.go bgo)).mono ?_; rintro r w1 ⟨rfl, hb1⟩; obtain ⟨hc1, hf1, hz1_0, hl1_0, hA1, hs1⟩ := wz w hb1 w.heap.size; clear hb1)
  | (go_at_call 33; refine (c55 _).mono ?_; rintro r w2 ⟨rfl, rfl⟩))
 exact bodyPost_ret (v := .tuple #[DI n nm wd f e l m, .int .i64 0]) (by simp only [results, Tryz.results47]; go_simp) rfl ⟨rfl, bgo⟩
end
theorem rck_good (n d : Int) (w : World) (hT : Tab w) (h : binN n ∧ knB d) : Calls Tryz.prog 47 #[.int .i64 n, .int .i64 d] w fun r w' => r = .returned (.tuple #[DI n (nameN n) (widthN n) (fN n) (eN n) (leastN n) (mostN n), .int .i64 0]) ∧ Below w.heap.size w w' :=
 rck_k n d _ _ _ _ _ _ w hT (fun W hT' => dof_bin h.1 W hT') (decide_eq_true h.2)
def dV (l : List UInt8) : Nat := (numV (B l) (B l).size).toNat
theorem sb_by (l : List UInt8) (i : Nat) : sb (B l) i = by_ l i := by
 unfold sb by_
 by_cases h : i < l.length
 ·rw [dif_pos (show i < (B l).size from h), dif_pos h, B_get]
 ·rw [dif_neg (show ¬ i < (B l).size from h), dif_neg h]
theorem dig_B {l : List UInt8} (h : l.all dg = true) : digB (B l) (B l).size = true := by
 refine digB_of _ fun k hk => ?_
 rw [sb_by]
 have hk' : k < l.length := hk
 have h1 := List.all_eq_true.1 h (l[k]'hk') (List.getElem_mem hk')
 unfold dg at h1
 unfold by_
 rw [dif_pos hk']
 have := of_decide_eq_true h1
 omega
theorem dV_lt {l : List UInt8} (h : l.all dg = true) : dV l < 10 ^ l.length ∧ (dV l : Int) = numV (B l) (B l).size := by
 obtain ⟨a, b⟩ := numV_bd _ (dig_B h)
 unfold dV
 generalize numV (B l) (B l).size = V at *
 rw [B_size] at b
 have : ((10 : Int) ^ l.length) = ((10 ^ l.length : Nat) : Int) := by simp
 rw [this] at b
 exact ⟨by omega, by omega⟩
theorem num_zero (l : List UInt8) : numV (B (48 :: l)) (B (48 :: l)).size = numV (B l) (B l).size := by
 have h := numV_app (s := B (48 :: l)) (u := B l) 1 (B l).size (fun i hi => by rw [sb_by, sb_by, Nat.add_comm, by_succ])
 have hs : (B (48 :: l)).size = 1 + (B l).size := by rw [B_size, B_size, List.length_cons]; omega
 rw [hs, h]
 have h1 : numV (B (48 :: l)) 1 = 0 := by
  have : numV (B (48 :: l)) 1 = numV (B (48 :: l)) 0 * 10 + (sb (B (48 :: l)) 0 - 48) := rfl
  rw [this, sb_by, by_zero]; rfl
 rw [h1]; omega
theorem bl_10 {A L k : Nat} (h : A < 10 ^ L) (hk : 4 * L ≤ k) : bl A ≤ k := by
 refine bl_le.2 (Nat.lt_of_lt_of_le h ?_)
 have h1 : 10 ^ L ≤ 16 ^ L := Nat.pow_le_pow_left (by decide) L
 have h2 : (16 : Nat) ^ L = 2 ^ (4 * L) := by rw [Nat.pow_mul]
 exact Nat.le_trans h1 (h2 ▸ Nat.pow_le_pow_right (by decide) hk)
theorem nz_of {a : Option Addr} {k cap K V : Nat} {z : Nat → Int} {w : World} (h : Num w a k cap z) (hv : val z k = (V : Int)) (hs : sizeL z k = k) (hb : bl V ≤ 64 * K) : Nz K V (.slice a k cap) w := by
 unfold Nz
 exact ⟨a, k, cap, z, rfl, by have := (size_bl (m := K) h.2.2.1 hv).2 hb; omega, h, hv, hs⟩
theorem natural8 (l : List UInt8) (w : World) (hd : l.all dg = true) (hl : l.length ≤ 4000) : Calls Tryz.prog 146 #[.string (B l)] w fun r w' => ∃ v, r = .returned v ∧ Nz 251 (dV l) v w' ∧ Below w.heap.size w w' := by
 have h48 : (48 :: l).all dg = true := by rw [List.all_cons, hd]; rfl
 have c100 := nread_ok (B (48 :: l)) w (by unfold isDigB; rw [dig_B h48]; simp [B_size]) (by rw [B_size, List.length_cons]; omega)
 rw [num_zero] at c100
 obtain ⟨hlt, he⟩ := dV_lt hd
 rw [← he] at c100
 have hbl : bl (dV l) ≤ 64 * 251 := bl_10 hlt (by omega)
 have eB : (⟨#[48]⟩ : ByteArray) ++ B l = B (48 :: l) := B_app [48] l
 have hsz : (B l).size ≤ 4000 := by rw [B_size]; exact hl
 have hs2 : ((B (48 :: l)).size : Int) ≤ 9223372036854775807 := by rw [B_size, List.length_cons]; omega
 generalize dV l = A at *
 rw [← eB] at c100 hs2
 clear hd h48 hlt he eB
 go_enter Tryz.func146, Tryz.ntmps146
 go_wp2_with (go_at_call 191; refine c100.mono ?_; rintro e w1 ⟨o, k, cap, z, rfl, hk, hN, hv, hs, hB⟩)
 go_ret
 exact ⟨_, rfl, nz_of hN hv hs hbl, hB⟩
end
section
attribute [local irreducible] W4 Nz Nt
section
variable (n d : Int) (nm : ByteArray) (wd : Int) (f e : Nat) (l m : Int) (s : List UInt8) (w : World) (hT : Tab w)
include hT
theorem xr_e (i0 i3 i4 i5 i6 i7 i8 b E : Int) (i9 : Bool) (hE : (E != 0) = true) (c54 : ∀ W, Tab W → Calls Tryz.prog 32 #[.int .i64 n] W fun r w' => r = .returned (.tuple #[.agg #[.int .i64 i0, .string nm, .int .i64 b, .int .i64 i3, .int .i64 i4, .int .i64 i5, .int .i64 i6, .int .i64 i7, .int .i64 i8, .bool i9], .int .i64 E]) ∧ Below W.heap.size W w') :
  Calls Tryz.prog 11 #[.int .i64 n, .int .i64 d, .string (B s)] w fun r w' => r = .returned (.tuple #[Z4, .int .i64 0, .int .i64 1]) ∧ Below w.heap.size w w' := by
 have hsm := cell_set_map
 go_enter Tryz.func11, Tryz.ntmps11
 go_wp2_with (first
  | (go_at_call 32; refine (c54 _ (hT.go bgo)).mono ?_; rintro r w1 ⟨rfl, hb1⟩; obtain ⟨hc1, hf1, hz1_0, hl1_0, hA1, hs1⟩ := wz w hb1 w.heap.size; clear hb1))
 exact bodyPost_ret (v := .tuple #[Z4, .int .i64 0, .int .i64 1]) (by simp only [results, Tryz.results11]; go_simp) rfl ⟨rfl, bgo⟩
theorem xr_b (i0 i3 i4 i5 i6 i7 i8 b : Int) (i9 : Bool) (hE : (b != 2) = true) (c54 : ∀ W, Tab W → Calls Tryz.prog 32 #[.int .i64 n] W fun r w' => r = .returned (.tuple #[.agg #[.int .i64 i0, .string nm, .int .i64 b, .int .i64 i3, .int .i64 i4, .int .i64 i5, .int .i64 i6, .int .i64 i7, .int .i64 i8, .bool i9], .int .i64 0]) ∧ Below W.heap.size W w') :
  Calls Tryz.prog 11 #[.int .i64 n, .int .i64 d, .string (B s)] w fun r w' => r = .returned (.tuple #[Z4, .int .i64 0, .int .i64 1]) ∧ Below w.heap.size w w' := by
 have hsm := cell_set_map
 go_enter Tryz.func11, Tryz.ntmps11
 go_wp2_with (first
  | (go_at_call 32; refine (c54 _ (hT.go bgo)).mono ?_; rintro r w1 ⟨rfl, hb1⟩; obtain ⟨hc1, hf1, hz1_0, hl1_0, hA1, hs1⟩ := wz w hb1 w.heap.size; clear hb1))
 exact bodyPost_ret (v := .tuple #[Z4, .int .i64 0, .int .i64 1]) (by simp only [results, Tryz.results11]; go_simp) rfl ⟨rfl, bgo⟩
variable (c54 : ∀ W, Tab W → Calls Tryz.prog 32 #[.int .i64 n] W fun r w' => r = .returned (.tuple #[DI n nm wd f e l m, .int .i64 0]) ∧ Below W.heap.size W w')
include c54
theorem xr_d (hd : decide (knB d) = false) :
  Calls Tryz.prog 11 #[.int .i64 n, .int .i64 d, .string (B s)] w fun r w' => r = .returned (.tuple #[Z4, .int .i64 0, .int .i64 1]) ∧ Below w.heap.size w w' := by
 have hsm := cell_set_map
 have c55 := known_any d
 rw [hd] at c55
 go_enter Tryz.func11, Tryz.ntmps11
 go_wp2_with (first
  | (go_at_call 32; refine (c54 _ (hT.go bgo)).mono ?_; rintro r w1 ⟨rfl, hb1⟩; obtain ⟨hc1, hf1, hz1_0, hl1_0, hA1, hs1⟩ := wz w hb1 w.heap.size; clear hb1)
  | (go_at_call 33; refine (c55 _).mono ?_; rintro r w2 ⟨rfl, rfl⟩))
 exact bodyPost_ret (v := .tuple #[Z4, .int .i64 0, .int .i64 1]) (by simp only [results, Tryz.results11]; go_simp) rfl ⟨rfl, bgo⟩
variable (hd : decide (knB d) = true)
include hd
theorem xr_l (hl : 4000 < s.length) (hl2 : s.length ≤ 10000) :
  Calls Tryz.prog 11 #[.int .i64 n, .int .i64 d, .string (B s)] w fun r w' => r = .returned (.tuple #[Z4, .int .i64 0, .int .i64 4]) ∧ Below w.heap.size w w' := by
 have hsm := cell_set_map
 have c55 := known_any d
 rw [hd] at c55
 have hsz : (B s).size = s.length := B_size s
 have hli : 4000 < (s.length : Int) := by omega
 have hli2 : (s.length : Int) ≤ 10000 := by omega
 go_enter Tryz.func11, Tryz.ntmps11
 go_wp2_with (first
  | (go_at_call 32; refine (c54 _ (hT.go bgo)).mono ?_; rintro r w1 ⟨rfl, hb1⟩; obtain ⟨hc1, hf1, hz1_0, hl1_0, hA1, hs1⟩ := wz w hb1 w.heap.size; clear hb1)
  | (go_at_call 33; refine (c55 _).mono ?_; rintro r w2 ⟨rfl, rfl⟩))
 exact bodyPost_ret (v := .tuple #[Z4, .int .i64 0, .int .i64 4]) (by simp only [results, Tryz.results11]; go_simp) rfl ⟨rfl, bgo⟩
variable (hl : s.length ≤ 4000)
include hl
theorem xr_h (sg : Bool) (X : Int) (N : Nat) (V : Nat) (F E : Int) (c34 : ∀ W, Calls Tryz.prog 34 #[.string (B s)] W fun e w' => ∃ a0 k0 p0, e = .returned (.tuple #[HV sg (.slice a0 k0 p0) X, .bool true]) ∧ Nt 300 N (.slice a0 k0 p0) w' ∧ Below W.heap.size W w') (c35 : ∀ W v v', Tab W → Nt 300 N v W → Nt 1 1 v' W → Calls Tryz.prog 35 #[.int .i64 n, .int .i64 d, .bool sg, v, v', .int .i64 X] W fun r w' => r = .returned (.tuple #[A4 V, .int .i64 F, .int .i64 E]) ∧ Below W.heap.size W w') :
  Calls Tryz.prog 11 #[.int .i64 n, .int .i64 d, .string (B s)] w fun r w' => r = .returned (.tuple #[A4 V, .int .i64 F, .int .i64 E]) ∧ Below w.heap.size w w' := by
 have hsm := cell_set_map
 have c55 := known_any d
 rw [hd] at c55
 have hsz : (B s).size = s.length := B_size s
 have hli : (s.length : Int) ≤ 4000 := by omega
 go_enter Tryz.func11, Tryz.ntmps11
 go_wp2_with (first
  | (go_at_call 32; refine (c54 _ (hT.go bgo)).mono ?_; rintro r w1 ⟨rfl, hb1⟩; obtain ⟨hc1, hf1, hz1_0, hl1_0, hA1, hs1⟩ := wz w hb1 w.heap.size; clear hb1)
  | (go_at_call 33; refine (c55 _).mono ?_; rintro r w2 ⟨rfl, rfl⟩)
  | (go_at_call 34; refine (c34 _).mono ?_; rintro r w3 ⟨a3, k3, p3, rfl, hN3, hb3⟩; obtain ⟨hc3, hf3, hz3_0, hl3_0, hA3, hs3⟩ := wz w hb3 w.heap.size; clear hb3; have hq4 : w.heap.size < w3.heap.size + 1 + 1 := Nat.lt_succ_of_lt (Nat.lt_succ_of_lt hz3_0); have hq5 : w.heap.size < w3.heap.size + 2 := hq4)
  | (go_at_call 35; refine (c35 _ _ _ (hT.go bgo) (hN3.next bgo) (nt_one (by simp) rfl (by decide))).mono ?_; rintro r w4 ⟨rfl, hb4⟩; obtain ⟨hc4, hf4, hz4_0, hl4_0, hA4, hs4⟩ := wz w hb4 w.heap.size; clear hb4))
 exact bodyPost_ret (v := .tuple #[A4 V, .int .i64 F, .int .i64 E]) (by simp only [results, Tryz.results11]; go_simp) rfl ⟨rfl, bgo⟩
variable (c34 : ∀ W, Calls Tryz.prog 34 #[.string (B s)] W fun e w' => e = .returned (.tuple #[HZ, .bool false]) ∧ Below W.heap.size W w')
include c34
theorem xr_n (pc : Int) (ps pg : Bool) (pd : List UInt8) (pe E : Int) (c36 : ∀ W, Calls Tryz.prog 36 #[.string (B s)] W fun r w' => r = .returned (.tuple #[PV pc ps pg pd pe, .int .i64 E]) ∧ Below W.heap.size W w') (hE : (E != 0) = true) :
  Calls Tryz.prog 11 #[.int .i64 n, .int .i64 d, .string (B s)] w fun r w' => r = .returned (.tuple #[Z4, .int .i64 0, .int .i64 2]) ∧ Below w.heap.size w w' := by
 have hsm := cell_set_map
 have c55 := known_any d
 rw [hd] at c55
 have hsz : (B s).size = s.length := B_size s
 have hli : (s.length : Int) ≤ 4000 := by omega
 unfold PV at *
 go_enter Tryz.func11, Tryz.ntmps11
 go_wp2_with (first
  | (go_at_call 32; refine (c54 _ (hT.go bgo)).mono ?_; rintro r w1 ⟨rfl, hb1⟩; obtain ⟨hc1, hf1, hz1_0, hl1_0, hA1, hs1⟩ := wz w hb1 w.heap.size; clear hb1)
  | (go_at_call 33; refine (c55 _).mono ?_; rintro r w2 ⟨rfl, rfl⟩)
  | (go_at_call 34; refine (c34 _).mono ?_; rintro r w3 ⟨rfl, hb3⟩; obtain ⟨hc3, hf3, hz3_0, hl3_0, hA3, hs3⟩ := wz w hb3 w.heap.size; clear hb3)
  | (go_at_call 36; refine (c36 _).mono ?_; rintro r w5 ⟨rfl, hb5⟩; obtain ⟨hc5, hf5, hz5_0, hl5_0, hA5, hs5⟩ := wz w hb5 w.heap.size; clear hb5))
 exact bodyPost_ret (v := .tuple #[Z4, .int .i64 0, .int .i64 2]) (by simp only [results, Tryz.results11]; go_simp) rfl ⟨rfl, bgo⟩
theorem xr_1 (pc : Int) (ps pg : Bool) (pd : List UInt8) (pe E : Int) (c36 : ∀ W, Calls Tryz.prog 36 #[.string (B s)] W fun r w' => r = .returned (.tuple #[PV pc ps pg pd pe, .int .i64 0]) ∧ Below W.heap.size W w') (h1 : pc = 1) :
  Calls Tryz.prog 11 #[.int .i64 n, .int .i64 d, .string (B s)] w fun r w' => r = .returned (.tuple #[Z4, .int .i64 0, .int .i64 2]) ∧ Below w.heap.size w w' := by
 have hsm := cell_set_map
 subst h1
 have c55 := known_any d
 rw [hd] at c55
 have hsz : (B s).size = s.length := B_size s
 have hli : (s.length : Int) ≤ 4000 := by omega
 unfold PV at *
 go_enter Tryz.func11, Tryz.ntmps11
 go_wp2_with (first
  | (go_at_call 32; refine (c54 _ (hT.go bgo)).mono ?_; rintro r w1 ⟨rfl, hb1⟩; obtain ⟨hc1, hf1, hz1_0, hl1_0, hA1, hs1⟩ := wz w hb1 w.heap.size; clear hb1)
  | (go_at_call 33; refine (c55 _).mono ?_; rintro r w2 ⟨rfl, rfl⟩)
  | (go_at_call 34; refine (c34 _).mono ?_; rintro r w3 ⟨rfl, hb3⟩; obtain ⟨hc3, hf3, hz3_0, hl3_0, hA3, hs3⟩ := wz w hb3 w.heap.size; clear hb3)
  | (go_at_call 36; refine (c36 _).mono ?_; rintro r w5 ⟨rfl, hb5⟩; obtain ⟨hc5, hf5, hz5_0, hl5_0, hA5, hs5⟩ := wz w hb5 w.heap.size; clear hb5))
 exact bodyPost_ret (v := .tuple #[Z4, .int .i64 0, .int .i64 2]) (by simp only [results, Tryz.results11]; go_simp) rfl ⟨rfl, bgo⟩
theorem xr_o (pc : Int) (ps pg : Bool) (pd : List UInt8) (pe E : Int) (c36 : ∀ W, Calls Tryz.prog 36 #[.string (B s)] W fun r w' => r = .returned (.tuple #[PV pc ps pg pd pe, .int .i64 0]) ∧ Below W.heap.size W w') (h1 : (pc == 1) = false) (V : Nat) (F E' : Int) (c37 : ∀ W, Below w.heap.size w W → Calls Tryz.prog 37 #[.int .i64 n, .int .i64 d, PV pc ps pg pd pe] W fun r w' => r = .returned (.tuple #[A4 V, .int .i64 F, .int .i64 E']) ∧ Below W.heap.size W w') :
  Calls Tryz.prog 11 #[.int .i64 n, .int .i64 d, .string (B s)] w fun r w' => r = .returned (.tuple #[A4 V, .int .i64 F, .int .i64 E']) ∧ Below w.heap.size w w' := by
 have hsm := cell_set_map
 have c55 := known_any d
 rw [hd] at c55
 have hsz : (B s).size = s.length := B_size s
 have hli : (s.length : Int) ≤ 4000 := by omega
 unfold PV at *
 go_enter Tryz.func11, Tryz.ntmps11
 go_wp2_with (first
  | (go_at_call 32; refine (c54 _ (hT.go bgo)).mono ?_; rintro r w1 ⟨rfl, hb1⟩; obtain ⟨hc1, hf1, hz1_0, hl1_0, hA1, hs1⟩ := wz w hb1 w.heap.size; clear hb1)
  | (go_at_call 33; refine (c55 _).mono ?_; rintro r w2 ⟨rfl, rfl⟩)
  | (go_at_call 34; refine (c34 _).mono ?_; rintro r w3 ⟨rfl, hb3⟩; obtain ⟨hc3, hf3, hz3_0, hl3_0, hA3, hs3⟩ := wz w hb3 w.heap.size; clear hb3)
  | (go_at_call 36; refine (c36 _).mono ?_; rintro r w5 ⟨rfl, hb5⟩; obtain ⟨hc5, hf5, hz5_0, hl5_0, hA5, hs5⟩ := wz w hb5 w.heap.size; clear hb5)
  | (go_at_call 37; refine (c37 _ bgo).mono ?_; rintro r w6 ⟨rfl, hb6⟩; obtain ⟨hc6, hf6, hz6_0, hl6_0, hA6, hs6⟩ := wz w hb6 w.heap.size; clear hb6))
 exact bodyPost_ret (v := .tuple #[A4 V, .int .i64 F, .int .i64 E']) (by simp only [results, Tryz.results11]; go_simp) rfl ⟨rfl, bgo⟩
end
end
def hbC (k : Nat) : Nat := (bl k - 1 + 3) / 4
def hbR (k : Nat) : Nat := k % 2 ^ (bl k - 1) * 2 ^ (4 * hbC k - (bl k - 1))
def hbD (k : Nat) : List UInt8 := hxS (hxL (hbR k) (hbC k))
theorem p16 (c : Nat) : (16 : Nat) ^ c = 2 ^ (4 * c) := by rw [Nat.pow_mul]
theorem hbC_le (k : Nat) : bl k - 1 ≤ 4 * hbC k := by unfold hbC; omega
theorem hbR_lt (k : Nat) : hbR k < 16 ^ hbC k := by
 unfold hbR
 have h1 := hbC_le k
 have h2 : k % 2 ^ (bl k - 1) < 2 ^ (bl k - 1) := Nat.mod_lt _ (Nat.two_pow_pos _)
 rw [p16, show (2 : Nat) ^ (4 * hbC k) = 2 ^ (bl k - 1) * 2 ^ (4 * hbC k - (bl k - 1)) by rw [← Nat.pow_add]; congr 1; omega]
 exact Nat.mul_lt_mul_of_pos_right h2 (Nat.two_pow_pos _)
theorem hb_top {k : Nat} (h : k ≠ 0) : k = 2 ^ (bl k - 1) + k % 2 ^ (bl k - 1) := by
 have hb : bl k ≠ 0 := fun e => h (bl_zero.1 e)
 have h1 : 2 ^ (bl k - 1) ≤ k := bl_ge.1 (by omega)
 have h2 : k < 2 ^ bl k := bl_le.1 (Nat.le_refl _)
 have h3 : 2 ^ bl k = 2 ^ (bl k - 1) * 2 := by rw [← Nat.pow_succ]; congr 1; omega
 have h4 : k / 2 ^ (bl k - 1) = 1 := by
  refine Nat.div_eq_of_lt_le (by omega) (by omega)
 have := Nat.div_add_mod k (2 ^ (bl k - 1))
 rw [h4, Nat.mul_one] at this
 exact this.symm
theorem hbD_facts (k : Nat) : (hbD k).all hxB = true ∧ (hbD k).length ≤ hbC k ∧ hbR k = hxV (hbD k) * 16 ^ (hbC k - (hbD k).length) := by
 obtain ⟨h1, h2, h3⟩ := hxS_val (hxL_all (hbR k) (hbC k))
 rw [hxL_val (hbR_lt k), hxL_len] at h3
 rw [hxL_len] at h2
 exact ⟨h1, h2, h3⟩
def hbT (k : Nat) (x : Int) : List UInt8 := [48, 120, 49] ++ (if hbD k = [] then [] else 46 :: hbD k) ++ [112] ++ (if 0 ≤ x + bl k - 1 then [43] else []) ++ Lib.itoa (x + bl k - 1)
def hbZ : List UInt8 := [48, 120, 48, 112, 43, 48]
theorem digit_v (y : UInt8) (w : World) : Calls Tryz.prog 100 #[.int .u8 ((y.toNat : Nat) : Int)] w fun r w' => r = .returned (.int .i64 (if hxB y then (hxw y : Int) else -1)) ∧ w = w' := by
 have hy := y.toNat_lt
 unfold hxB hxw
 obtain ⟨c, hc⟩ : ∃ c : Int, c = ((y.toNat : Nat) : Int) := ⟨_, rfl⟩
 have hcb : 0 ≤ c ∧ c ≤ 255 := by omega
 by_cases h1 : 48 ≤ y.toNat ∧ y.toNat ≤ 57
 ·rw [decide_eq_true (Or.inl h1), if_pos rfl, if_pos h1.2, show ((y.toNat - 48 : Nat) : Int) = c - 48 by omega, ← hc]
  have h2 : 48 ≤ c := by omega
  have h3 : c ≤ 57 := by omega
  clear hc hy h1
  go_enter Tryz.func100, Tryz.ntmps100
  go_wp2
  go_ret
  exact ⟨rfl, rfl⟩
 ·by_cases h2 : 97 ≤ y.toNat ∧ y.toNat ≤ 102
  ·rw [decide_eq_true (Or.inr h2), if_pos rfl, if_neg (by omega), show ((y.toNat - 87 : Nat) : Int) = c - 97 + 10 by omega, ← hc]
   have h3 : 48 ≤ c := by omega
   have h4 : ¬ c ≤ 57 := by omega
   have h5 : 97 ≤ c := by omega
   have h6 : c ≤ 102 := by omega
   clear hc hy h1 h2
   go_enter Tryz.func100, Tryz.ntmps100
   go_wp2
   go_ret
   exact ⟨rfl, rfl⟩
  ·rw [decide_eq_false (fun h => h.elim h1 h2), if_neg (by decide), ← hc]
   by_cases h3 : 48 ≤ c
   ·have h4 : ¬ c ≤ 57 := by omega
    by_cases h5 : 97 ≤ c
    ·have h6 : ¬ c ≤ 102 := by omega
     clear hc hy h1 h2
     go_enter Tryz.func100, Tryz.ntmps100
     go_wp2
     go_ret
     exact ⟨rfl, rfl⟩
    ·clear hc hy h1 h2
     go_enter Tryz.func100, Tryz.ntmps100
     go_wp2
     go_ret
     exact ⟨rfl, rfl⟩
   ·have h5 : ¬ 97 ≤ c := by omega
    clear hc hy h1 h2
    go_enter Tryz.func100, Tryz.ntmps100
    go_wp2
    go_ret
    exact ⟨rfl, rfl⟩
section
section
variable {P : Program} {ops : Array Oper} {Q : Exit → Act → World → Prop} {md : Region.Mode}
def toCome (listed : Array Bool) : Nat → Nat
 | 0 => 0
 | n + 1 => toCome listed n + (if listed.getD n true then 0 else 1)
theorem toCome_out {listed : Array Bool} {i : Nat} : ∀ n, n ≤ i → toCome (listed.setIfInBounds i true) n = toCome listed n
 | 0, _ => rfl
 | n + 1, h => by unfold toCome; rw [toCome_out n (by omega), getD_set_ne true (by omega)]
theorem toCome_set {listed : Array Bool} {i : Nat} (hu : listed.getD i true = false) : ∀ n, i < n → toCome (listed.setIfInBounds i true) n + 1 = toCome listed n
 | 0, h => by omega
 | n + 1, h => by
  unfold toCome
  by_cases e : i = n
  ·subst e
   have hlt : i < listed.size := by
    rcases Nat.lt_or_ge i listed.size with h' | h'
    ·exact h'
    ·simp [Array.getElem?_eq_none h'] at hu
   rw [toCome_out i (Nat.le_refl _), hu]
   simp [hlt]
  ·rw [getD_set_ne true e]
   have := toCome_set hu n (by omega)
   omega
theorem toCome_zero {listed : Array Bool} : ∀ n, toCome listed n = 0 → ∀ i, i < n → listed.getD i true = true
 | 0, _, i, h => by omega
 | n + 1, h, i, hi => by
  unfold toCome at h
  by_cases e : i = n
  ·subst e
   by_cases hl : listed.getD i true = true
   ·exact hl
   ·rw [if_neg hl] at h; omega
  ·exact toCome_zero n (by omega) i (by omega)
theorem toCome_least {listed : Array Bool} : ∀ n, 0 < toCome listed n → ∃ i, i < n ∧ listed.getD i true = false ∧ ∀ j, j < i → listed.getD j true = true
 | 0, h => by simp [toCome] at h
 | n + 1, h => by
  by_cases h0 : 0 < toCome listed n
  ·obtain ⟨i, h1, h2, h3⟩ := toCome_least n h0
   exact ⟨i, by omega, h2, h3⟩
  ·unfold toCome at h
   have hz := toCome_zero (listed := listed) n (by omega)
   refine ⟨n, by omega, ?_, fun j hj => hz j hj⟩
   cases hl : listed.getD n true with
   | false => rfl
   | true => rw [hl, if_pos rfl] at h; omega
def backB (md : Region.Mode) (ops : Array Oper) (n : Nat) : Bool :=
 (List.range n).all fun i => match ops[i]? with
  | some o => o.after.all fun e => !Region.binds md e || decide (e.on < i)
  | none => false
theorem backB_spec {n : Nat} (h : backB md ops n = true) (i : Nat) (hi : i < n) : ∃ o, ops[i]? = some o ∧ ∀ e ∈ o.after, Region.binds md e = true → e.on < i := by
 have h1 := List.all_eq_true.1 h i (List.mem_range.2 hi)
 cases ho : ops[i]? with
 | none => simp only [ho] at h1; cases h1
 | some o =>
  simp only [ho] at h1
  refine ⟨o, rfl, fun e he hb => ?_⟩
  have h2 := Array.all_eq_true_iff_forall_mem.1 h1 e he
  simpa [hb] using h2
theorem getD_true_in {listed : Array Bool} {i : Nat} (hi : i < listed.size) (h : listed.getD i true = true) : listed.getD i false = true := by
 simp [hi] at h ⊢; exact h
def headDone (n m : Nat) : Array Bool := (List.replicate n true ++ List.replicate (m - n) false).toArray
theorem headDone_eq {n : Nat} {listed : Array Bool} (hn : n ≤ ops.size) (inv : HeadInv md ops n listed) (h : ∀ i, i < n → listed.getD i true = true) : listed = headDone n ops.size := by
 apply Array.ext
 ·simp [headDone, inv.size]; omega
 ·intro i h1 h2
  by_cases hi : i < n
  ·have := h i hi
   simp [h1] at this
   rw [this]
   simp [headDone, List.getElem_append, hi]
  ·have := inv.tail i (by omega) (by rw [← inv.size]; exact h1)
   simp [h1] at this
   rw [this]
   simp [headDone, List.getElem_append, hi]
theorem toCome_replicate (m : Nat) : ∀ n, n ≤ m → toCome (Array.replicate m false) n = n
 | 0, _ => rfl
 | n + 1, h => by unfold toCome; rw [toCome_replicate m n (by omega)]; simp [show n < m by omega]
def invB (md : Region.Mode) (ops : Array Oper) (n : Nat) : Bool :=
 Region.sinkB md ops n && Region.chainB md ops n && decide (n < ops.size) && backB md ops n && Region.seqB md ops (ops.size - n) n (headDone n ops.size)
abbrev slot (a : Act) (t : Nat) : Value := a.tmps[t]?.getD undef
theorem slot_put_ne {a : Act} {d t : Nat} {v : Value} (h : d ≠ t) : slot (a.put (some d) v) t = slot a t := by
 simp [slot, Act.put, Array.getElem?_setIfInBounds_ne h]
theorem slot_put {a : Act} {d : Nat} {v : Value} (h : d < a.tmps.size) : slot (a.put (some d) v) d = v := by
 simp [slot, Act.put, h]
end
end
section
section
variable {P : Program} {ops : Array Oper} {Q : Exit → Act → World → Prop} {md : Region.Mode}
theorem listed_set {listed : Array Bool} {i : Nat} (hi : i < listed.size) : (fun j => (listed.setIfInBounds i true).getD j false = true) = (fun j => listed.getD j false = true ∨ j = i) := by
 funext j
 apply propext
 by_cases e : j = i
 ·subst e
  simp [hi]
 ·rw [getD_set_ne false (fun h => e h.symm)]
  simp [e]
theorem wpAny_inv3 {n : Nat} {B : (Nat → Prop) → Act → World → Prop} {tail : List Oper} (hs : Region.sinkB md ops n = true) (hc : Region.chainB md ops n = true) (hn : n < ops.size) (hb : backB md ops n = true)
  (htl : ∀ j, tail[j]? = ops[n + j]?) (hseq : Region.seqB md ops tail.length n (headDone n ops.size) = true)
  (hstep : ∀ (L : Nat → Prop) i o a w, i < n → ops[i]? = some o → ¬ L i → (∀ j oj, ops[j]? = some oj → L j → ∀ e ∈ oj.after, Region.binds md e = true → L e.on) → (∀ e ∈ o.after, Region.binds md e = true → L e.on) → B L a w → wpOp P ops Q i (fun a' w' => B (fun j => L j ∨ j = i) a' w') a w)
  (hend : ∀ (L : Nat → Prop) a w, (∀ i, i < n → L i) → B L a w → wpList P ops Q tail a w) :
  ∀ (f : Nat) (listed : Array Bool) (a : Act) (w : World), HeadInv md ops n listed → toCome listed n = f → B (fun j => listed.getD j false = true) a w → wpAny P md ops Q (f + tail.length) listed a w
 | 0, listed, a, w, inv, hf, hB => by
  have hz := toCome_zero n hf
  have he := headDone_eq (Nat.le_of_lt hn) inv hz
  have hw := hend _ a w (fun i hi => getD_true_in (by rw [inv.size]; omega) (hz i hi)) hB
  rw [Nat.zero_add, he]
  exact wpAny_of_seq tail n _ a w htl hseq hw
 | f + 1, listed, a, w, inv, hf, hB => by
  obtain ⟨k, hk, hku, hkl⟩ := toCome_least (listed := listed) n (by omega)
  rw [show f + 1 + tail.length = (f + tail.length) + 1 by omega]
  refine ⟨fun h0 => ?_, fun i hi => ?_⟩
  ·obtain ⟨o, ho, hlt⟩ := backB_spec hb k hk
   have : k ∈ Region.ready md ops listed := mem_ready.2 ⟨hku, o, ho, fun e he hbd => by
    have := hlt e he hbd
    exact getD_true_in (by rw [inv.size]; omega) (hkl _ this)⟩
   rw [h0] at this; cases this
  ·have hin : i < n := by
    rcases Nat.lt_or_ge i n with h | h
    ·exact h
    ·exact absurd hi (tail_waits hs hc hn inv _ k rfl hk hku i h)
   obtain ⟨hu, o, ho, hall⟩ := mem_ready.1 hi
   refine wpOp_mono (fun a' w' h3 => ?_) (hstep (fun j => listed.getD j false = true) i o a w hin ho (by show ¬ (listed.getD i false = true); rw [getD_both hu]; decide) inv.closed hall hB)
   refine wpAny_inv3 hs hc hn hb htl hseq hstep hend f _ a' w' (inv.set hi hin) (by have := toCome_set hu n hin; omega) ?_
   rw [listed_set (by rw [inv.size]; omega)]
   exact h3
theorem wp_region_inv3 (n : Nat) (B : (Nat → Prop) → Act → World → Prop) {id : Nat} {l : List Oper} {a : Act} {w : World} (hm : P.follows .mixedOrders = true) (hI : invB .any l.toArray n = true)
  (h0 : B (fun _ => False) a w.drew)
  (hstep : ∀ (L : Nat → Prop) i o a w, i < n → l[i]? = some o → ¬ L i → (∀ j oj, l[j]? = some oj → L j → ∀ e ∈ oj.after, Region.binds .any e = true → L e.on) → (∀ e ∈ o.after, Region.binds .any e = true → L e.on) → B L a w → wpOp P l.toArray Q i (fun a' w' => B (fun j => L j ∨ j = i) a' w') a w)
  (hend : ∀ (L : Nat → Prop) a w, (∀ i, i < n → L i) → B L a w → wpList P l.toArray Q (l.drop n) a w) : (Code.region id l.toArray true).wp P Q a w := by
 simp only [invB, Bool.and_eq_true, decide_eq_true_eq] at hI
 obtain ⟨⟨⟨⟨hs, hc⟩, hn⟩, hb⟩, hseq⟩ := hI
 have hdl : (l.drop n).length = l.toArray.size - n := by simp
 refine wp_region_any hm ?_
 have hf0 : (fun j => (Array.replicate l.toArray.size false).getD j false = true) = fun _ => False := by
  funext j
  rw [getD_replicate_false]
  simp
 have H := wpAny_inv3 (P := P) (Q := Q) (md := .any) (ops := l.toArray) (n := n) (B := B) (tail := l.drop n) hs hc hn hb (fun j => by simp [List.getElem?_drop]) (by rw [hdl]; exact hseq)
  (fun L i o a w hi ho hL hcl he hB => hstep L i o a w hi (by simpa using ho) hL (fun j oj hj => hcl j oj (by simpa using hj)) he hB) hend n (Array.replicate l.toArray.size false) a w.drew
  ⟨by simp, fun j oj _ hl => (by rw [getD_replicate_false] at hl; cases hl), fun t _ ht => getD_in (by simpa using ht) (getD_replicate_false _ _)⟩
  (toCome_replicate _ n (by simpa using Nat.le_of_lt hn)) (by rw [hf0]; exact h0)
 rw [hdl] at H
 have : n + (l.toArray.size - n) = l.toArray.size := by omega
 rw [this] at H
 exact H
end
end
end Go.Proofs.YtplocajjfoiklaaGreatDoor
