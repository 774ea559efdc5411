/-
  Texts that the proof leans on.
-/
import Derived.Test.YtpemdcnneabbfaaGreatDoorJ41
import Derived.Test.YtpemdcnneabbfaaGreatDoorJ25
import Derived.Test.YtpemdcnneabbfaaGreatDoorJ26
import Derived.Test.YtpemdcnneabbfaaGreatDoorJ11
import Derived.Test.YtpemdcnneabbfaaGreatDoorJ23
import Derived.Test.YtpemdcnneabbfaaGreatDoorJ16
import Derived.Test.YtpemdcnneabbfaaGreatDoorJ24
import Derived.Deep.Cut
import Derived.Deep.CutRange
import Derived.Deep.RegionWith
import Derived.Test.YtpemdcnneabbfaaGreatDoorJ3
set_option linter.unusedVariables false
set_option linter.unusedSectionVars false
set_option linter.unusedSimpArgs false
set_option maxRecDepth 20000
namespace Go.Proofs.YtpemdcnneabbfaaGreatDoor
open Go.RowKit
section
theorem cpy1 (W : World) (g b off cap : Nat) (v0 : Int) (h0 : W.cell? ⟨b, off, none⟩ = some (.int .u64 v0)) (c0 : (W.cell? ⟨g, 0, none⟩).isSome = true) (f0 : W.frozen? ⟨g, 0, none⟩ = false) :
    Sem.run Tryz.prog (Builtin.copy_ #[30, 30] 3 #[.slice (some ⟨g, 0, none⟩) 4 4, .slice (some ⟨b, off, none⟩) 1 cap]) W = .ok (.int .i64 1) (W.setCell ⟨g, 0, none⟩ (.int .u64 v0)) := by
  have := run_copy_cells (P := Tryz.prog) W 30 30 3 23 g 0 4 4 ⟨b, off, none⟩ 1 cap [.int .u64 v0] Tryz.underlying30 (by kernel_rfl) rfl ?_ ?_ ?_ ?_
  · exact this
  · intro j v
    match j, v with
    | 0, _ => intro h; cases h; simpa [Addr.add] using h0
    | (j + 1), _ => intro h; simp at h
  · intro j hj
    match j, hj with
    | 0, _ => simpa using c0
    | (j + 1), h => exact absurd h (by simp only [List.length_cons, List.length_nil]; omega)
  · intro j hj
    match j, hj with
    | 0, _ => simpa using f0
    | (j + 1), h => exact absurd h (by simp only [List.length_cons, List.length_nil]; omega)
  · intro v hv
    simp at hv
    first | (subst hv; rfl) | (rcases hv with rfl | rfl <;> rfl) | (rcases hv with rfl | rfl | rfl <;> rfl) | (rcases hv with rfl | rfl | rfl | rfl <;> rfl)
theorem cpy2 (W : World) (g b off cap : Nat) (v0 v1 : Int) (h0 : W.cell? ⟨b, off, none⟩ = some (.int .u64 v0)) (h1 : W.cell? ⟨b, off + 1, none⟩ = some (.int .u64 v1)) (c0 : (W.cell? ⟨g, 0, none⟩).isSome = true) (f0 : W.frozen? ⟨g, 0, none⟩ = false) (c1 : (W.cell? ⟨g, 1, none⟩).isSome = true) (f1 : W.frozen? ⟨g, 1, none⟩ = false) :
    Sem.run Tryz.prog (Builtin.copy_ #[30, 30] 3 #[.slice (some ⟨g, 0, none⟩) 4 4, .slice (some ⟨b, off, none⟩) 2 cap]) W = .ok (.int .i64 2) ((W.setCell ⟨g, 0, none⟩ (.int .u64 v0)).setCell ⟨g, 1, none⟩ (.int .u64 v1)) := by
  have := run_copy_cells (P := Tryz.prog) W 30 30 3 23 g 0 4 4 ⟨b, off, none⟩ 2 cap [.int .u64 v0, .int .u64 v1] Tryz.underlying30 (by kernel_rfl) rfl ?_ ?_ ?_ ?_
  · exact this
  · intro j v
    match j, v with
    | 0, _ => intro h; cases h; simpa [Addr.add] using h0
    | 1, _ => intro h; cases h; simpa [Addr.add] using h1
    | (j + 2), _ => intro h; simp at h
  · intro j hj
    match j, hj with
    | 0, _ => simpa using c0
    | 1, _ => simpa using c1
    | (j + 2), h => exact absurd h (by simp only [List.length_cons, List.length_nil]; omega)
  · intro j hj
    match j, hj with
    | 0, _ => simpa using f0
    | 1, _ => simpa using f1
    | (j + 2), h => exact absurd h (by simp only [List.length_cons, List.length_nil]; omega)
  · intro v hv
    simp at hv
    first | (subst hv; rfl) | (rcases hv with rfl | rfl <;> rfl) | (rcases hv with rfl | rfl | rfl <;> rfl) | (rcases hv with rfl | rfl | rfl | rfl <;> rfl)
theorem cpy3 (W : World) (g b off cap : Nat) (v0 v1 v2 : Int) (h0 : W.cell? ⟨b, off, none⟩ = some (.int .u64 v0)) (h1 : W.cell? ⟨b, off + 1, none⟩ = some (.int .u64 v1)) (h2 : W.cell? ⟨b, off + 2, none⟩ = some (.int .u64 v2)) (c0 : (W.cell? ⟨g, 0, none⟩).isSome = true) (f0 : W.frozen? ⟨g, 0, none⟩ = false) (c1 : (W.cell? ⟨g, 1, none⟩).isSome = true) (f1 : W.frozen? ⟨g, 1, none⟩ = false) (c2 : (W.cell? ⟨g, 2, none⟩).isSome = true) (f2 : W.frozen? ⟨g, 2, none⟩ = false) :
    Sem.run Tryz.prog (Builtin.copy_ #[30, 30] 3 #[.slice (some ⟨g, 0, none⟩) 4 4, .slice (some ⟨b, off, none⟩) 3 cap]) W = .ok (.int .i64 3) (((W.setCell ⟨g, 0, none⟩ (.int .u64 v0)).setCell ⟨g, 1, none⟩ (.int .u64 v1)).setCell ⟨g, 2, none⟩ (.int .u64 v2)) := by
  have := run_copy_cells (P := Tryz.prog) W 30 30 3 23 g 0 4 4 ⟨b, off, none⟩ 3 cap [.int .u64 v0, .int .u64 v1, .int .u64 v2] Tryz.underlying30 (by kernel_rfl) rfl ?_ ?_ ?_ ?_
  · exact this
  · intro j v
    match j, v with
    | 0, _ => intro h; cases h; simpa [Addr.add] using h0
    | 1, _ => intro h; cases h; simpa [Addr.add] using h1
    | 2, _ => intro h; cases h; simpa [Addr.add] using h2
    | (j + 3), _ => intro h; simp at h
  · intro j hj
    match j, hj with
    | 0, _ => simpa using c0
    | 1, _ => simpa using c1
    | 2, _ => simpa using c2
    | (j + 3), h => exact absurd h (by simp only [List.length_cons, List.length_nil]; omega)
  · intro j hj
    match j, hj with
    | 0, _ => simpa using f0
    | 1, _ => simpa using f1
    | 2, _ => simpa using f2
    | (j + 3), h => exact absurd h (by simp only [List.length_cons, List.length_nil]; omega)
  · intro v hv
    simp at hv
    first | (subst hv; rfl) | (rcases hv with rfl | rfl <;> rfl) | (rcases hv with rfl | rfl | rfl <;> rfl) | (rcases hv with rfl | rfl | rfl | rfl <;> rfl)
theorem cpy4 (W : World) (g b off cap : Nat) (v0 v1 v2 v3 : Int) (h0 : W.cell? ⟨b, off, none⟩ = some (.int .u64 v0)) (h1 : W.cell? ⟨b, off + 1, none⟩ = some (.int .u64 v1)) (h2 : W.cell? ⟨b, off + 2, none⟩ = some (.int .u64 v2)) (h3 : W.cell? ⟨b, off + 3, none⟩ = some (.int .u64 v3)) (c0 : (W.cell? ⟨g, 0, none⟩).isSome = true) (f0 : W.frozen? ⟨g, 0, none⟩ = false) (c1 : (W.cell? ⟨g, 1, none⟩).isSome = true) (f1 : W.frozen? ⟨g, 1, none⟩ = false) (c2 : (W.cell? ⟨g, 2, none⟩).isSome = true) (f2 : W.frozen? ⟨g, 2, none⟩ = false) (c3 : (W.cell? ⟨g, 3, none⟩).isSome = true) (f3 : W.frozen? ⟨g, 3, none⟩ = false) :
    Sem.run Tryz.prog (Builtin.copy_ #[30, 30] 3 #[.slice (some ⟨g, 0, none⟩) 4 4, .slice (some ⟨b, off, none⟩) 4 cap]) W = .ok (.int .i64 4) ((((W.setCell ⟨g, 0, none⟩ (.int .u64 v0)).setCell ⟨g, 1, none⟩ (.int .u64 v1)).setCell ⟨g, 2, none⟩ (.int .u64 v2)).setCell ⟨g, 3, none⟩ (.int .u64 v3)) := by
  have := run_copy_cells (P := Tryz.prog) W 30 30 3 23 g 0 4 4 ⟨b, off, none⟩ 4 cap [.int .u64 v0, .int .u64 v1, .int .u64 v2, .int .u64 v3] Tryz.underlying30 (by kernel_rfl) rfl ?_ ?_ ?_ ?_
  · exact this
  · intro j v
    match j, v with
    | 0, _ => intro h; cases h; simpa [Addr.add] using h0
    | 1, _ => intro h; cases h; simpa [Addr.add] using h1
    | 2, _ => intro h; cases h; simpa [Addr.add] using h2
    | 3, _ => intro h; cases h; simpa [Addr.add] using h3
    | (j + 4), _ => intro h; simp at h
  · intro j hj
    match j, hj with
    | 0, _ => simpa using c0
    | 1, _ => simpa using c1
    | 2, _ => simpa using c2
    | 3, _ => simpa using c3
    | (j + 4), h => exact absurd h (by simp only [List.length_cons, List.length_nil]; omega)
  · intro j hj
    match j, hj with
    | 0, _ => simpa using f0
    | 1, _ => simpa using f1
    | 2, _ => simpa using f2
    | 3, _ => simpa using f3
    | (j + 4), h => exact absurd h (by simp only [List.length_cons, List.length_nil]; omega)
  · intro v hv
    simp at hv
    first | (subst hv; rfl) | (rcases hv with rfl | rfl <;> rfl) | (rcases hv with rfl | rfl | rfl <;> rfl) | (rcases hv with rfl | rfl | rfl | rfl <;> rfl)
attribute [local irreducible] W4 Nz Nt
section
variable (n d : Int) (nm : ByteArray) (wd : Int) (f e : Nat) (l m : Int) (w : World) (hT : Tab w)
include hT
variable (c54 : ∀ W, Tab W → Calls Tryz.prog 40 #[.int .i64 n] W fun r w' => r = .returned (.tuple #[DI n nm wd f e l m, .int .i64 0]) ∧ Below W.heap.size W w')
include c54
set_option maxHeartbeats 1000000 in
theorem rck_k (hd : decide (knB d) = true) : Calls Tryz.prog 21 #[.int .i64 n, .int .i64 d] w fun r w' => r = .returned (.tuple #[DI n nm wd f e l m, .int .i64 0]) ∧ Below w.heap.size w w' := by
  have hsm := cell_set_map
  have c55 := known_any d
  rw [hd] at c55
  go_enter Tryz.func21, Tryz.ntmps21
  go_wp2_with (first
    | (go_at_call 40; refine (c54 _ (hT.go bgo)).mono ?_; rintro r w1 ⟨rfl, hb1⟩; obtain ⟨hc1, hf1⟩ := bcell hb1; have hz1_0 : w.heap.size < w1.heap.size := lt_below hb1 ltg; have hl1_0 := Nat.le_of_lt hz1_0; have hA1 := bnext (w0 := w) bgo hb1; have hs1 := hA1.size; clear hb1)
    | (go_at_call 41; refine (c55 _).mono ?_; rintro r w2 ⟨rfl, rfl⟩))
  exact bodyPost_ret (v := .tuple #[DI n nm wd f e l m, .int .i64 0]) (by simp only [results, Tryz.results21]; go_simp) rfl ⟨rfl, bgo⟩
end
theorem rck_good (n d : Int) (w : World) (hT : Tab w) (h : binN n ∧ knB d) : Calls Tryz.prog 21 #[.int .i64 n, .int .i64 d] w fun r w' => r = .returned (.tuple #[DI n (nameN n) (widthN n) (fN n) (eN n) (leastN n) (mostN n), .int .i64 0]) ∧ Below w.heap.size w w' :=
  rck_k n d _ _ _ _ _ _ w hT (fun W hT' => dof_bin h.1 W hT') (decide_eq_true h.2)
set_option maxHeartbeats 1000000 in
theorem within8 (c : Int) (s g : Bool) (d : List UInt8) (e : Int) (w : World) (hd : d.length ≤ 4000) : Calls Tryz.prog 85 #[PV c s g d e] w fun r w' => r = .returned (.int .i64 (pwE d.length e)) ∧ Below w.heap.size w w' := by
  have hsl : ((B d).size : Int) ≤ 4000 := by rw [B_size]; omega
  have HE : Hid (pwE d.length e = min (max e (-6000 - ((B d).size : Int))) (6000 - ((B d).size : Int))) := rfl
  have hsm := cell_set_map
  unfold PV
  go_enter Tryz.func85, Tryz.ntmps85
  go_wp2
  go_ret
  exact ⟨by rw [HE.out]; rfl, bgo⟩
/-- the number of digits -/
def dV (l : List UInt8) : Nat := (numV (B l) (B l).size).toNat
theorem sb_by (l : List UInt8) (i : Nat) : sb (B l) i = by_ l i := by
  unfold sb by_
  by_cases h : i < l.length
  · rw [dif_pos (show i < (B l).size from h), dif_pos h, B_get]
  · rw [dif_neg (show ¬ i < (B l).size from h), dif_neg h]
theorem dig_B {l : List UInt8} (h : l.all dg = true) : digB (B l) (B l).size = true := by
  refine digB_of _ fun k hk => ?_
  rw [sb_by]
  have hk' : k < l.length := hk
  have h1 := List.all_eq_true.1 h (l[k]'hk') (List.getElem_mem hk')
  unfold dg at h1
  unfold by_
  rw [dif_pos hk']
  have := of_decide_eq_true h1
  omega
theorem dV_lt {l : List UInt8} (h : l.all dg = true) : dV l < 10 ^ l.length ∧ (dV l : Int) = numV (B l) (B l).size := by
  obtain ⟨a, b⟩ := numV_bd _ (dig_B h)
  unfold dV
  generalize numV (B l) (B l).size = V at *
  rw [B_size] at b
  have : ((10 : Int) ^ l.length) = ((10 ^ l.length : Nat) : Int) := by simp
  rw [this] at b
  exact ⟨by omega, by omega⟩
theorem num_zero (l : List UInt8) : numV (B (48 :: l)) (B (48 :: l)).size = numV (B l) (B l).size := by
  have h := numV_app (s := B (48 :: l)) (u := B l) 1 (B l).size (fun i hi => by rw [sb_by, sb_by, Nat.add_comm, by_succ])
  have hs : (B (48 :: l)).size = 1 + (B l).size := by rw [B_size, B_size, List.length_cons]; omega
  rw [hs, h]
  have h1 : numV (B (48 :: l)) 1 = 0 := by
    have : numV (B (48 :: l)) 1 = numV (B (48 :: l)) 0 * 10 + (sb (B (48 :: l)) 0 - 48) := rfl
    rw [this, sb_by, by_zero]; rfl
  rw [h1]; omega
theorem bl_10 {A L k : Nat} (h : A < 10 ^ L) (hk : 4 * L ≤ k) : bl A ≤ k := by
  refine bl_le.2 (Nat.lt_of_lt_of_le h ?_)
  have h1 : 10 ^ L ≤ 16 ^ L := Nat.pow_le_pow_left (by decide) L
  have h2 : (16 : Nat) ^ L = 2 ^ (4 * L) := by rw [Nat.pow_mul]
  exact Nat.le_trans h1 (h2 ▸ Nat.pow_le_pow_right (by decide) hk)
theorem nz_of {a : Option Addr} {k cap K V : Nat} {z : Nat → Int} {w : World} (h : Num w a k cap z) (hv : val z k = (V : Int)) (hs : sizeL z k = k) (hb : bl V ≤ 64 * K) : Nz K V (.slice a k cap) w := by
  unfold Nz
  exact ⟨a, k, cap, z, rfl, by have := (size_bl (m := K) h.2.2.1 hv).2 hb; omega, h, hv, hs⟩
set_option maxHeartbeats 1000000 in
theorem natural8 (l : List UInt8) (w : World) (hd : l.all dg = true) (hl : l.length ≤ 4000) : Calls Tryz.prog 86 #[.string (B l)] w fun r w' => ∃ v, r = .returned v ∧ Nz 251 (dV l) v w' ∧ Below w.heap.size w w' := by
  have h48 : (48 :: l).all dg = true := by rw [List.all_cons, hd]; rfl
  have c100 := nread_ok (B (48 :: l)) w (by unfold isDigB; rw [dig_B h48]; simp [B_size]) (by rw [B_size, List.length_cons]; omega)
  rw [num_zero] at c100
  obtain ⟨hlt, he⟩ := dV_lt hd
  rw [← he] at c100
  have hbl : bl (dV l) ≤ 64 * 251 := bl_10 hlt (by omega)
  have eB : (⟨#[48]⟩ : ByteArray) ++ B l = B (48 :: l) := B_app [48] l
  have hsz : (B l).size ≤ 4000 := by rw [B_size]; exact hl
  have hs2 : ((B (48 :: l)).size : Int) ≤ 9223372036854775807 := by rw [B_size, List.length_cons]; omega
  generalize dV l = A at *
  rw [← eB] at c100 hs2
  clear hd h48 hlt he eB
  go_enter Tryz.func86, Tryz.ntmps86
  go_wp2_with (go_at_call 118; refine c100.mono ?_; rintro e w1 ⟨o, k, cap, z, rfl, hk, hN, hv, hs, hB⟩)
  go_ret
  exact ⟨_, rfl, nz_of hN hv hs hbl, hB⟩
end
section
/-- the payload as a format takes it -/
def plA (f A : Nat) : Nat := if (f : Int) - 1 < (bl A : Int) then 0 else A
def plV (f : Nat) (g : Bool) (A : Nat) : Nat := if g = true ∧ plA f A = 0 then 1 else plA f A
theorem nz_open {K V : Nat} {v : Value} {w : World} (h : Nz K V v w) : ∃ a k cap z, v = .slice a k cap ∧ k ≤ K ∧ Num w a k cap z ∧ val z k = (V : Int) ∧ sizeL z k = k := h
theorem nz_one {W : World} {g V : Nat} {vi : Int} (hg : g = W.heap.size) (hv : vi = (V : Int)) (hb : V < 18446744073709551616) (h0 : V ≠ 0) : Nz 251 V (.slice (some ⟨g, 0, none⟩) 1 1) (W.alloc (.cells #[.int .u64 vi] 23)) := by
  subst hg hv
  refine ⟨_, 1, 1, oneW V, rfl, by decide, num_one W V (by omega), val_one1 V, ?_⟩
  simp [sizeL, oneW]; omega
theorem nz_next {K V : Nat} {v : Value} {w w' : World} (h : Nz K V v w) (hb : Below w.heap.size w w') : Nz K V v w' := h.next hb
theorem plV_lt {f A : Nat} (g : Bool) (hf : f ≤ 240) : plV f g A < 2 ^ 256 := by
  have h : plA f A < 2 ^ 240 := by
    unfold plA
    split
    · exact Nat.two_pow_pos _
    · rename_i h
      exact bl_le.1 (by omega)
  have h2 : (2 : Nat) ^ 240 < 2 ^ 256 := by decide
  unfold plV
  split
  · decide
  · omega
theorem nz_nil251 (w : World) : Nz 251 0 (.slice none 0 0) w := by
  obtain ⟨a, k, cap, z, e, hk, h1, h2, h3⟩ := nz_open (nz_nil w)
  exact ⟨a, k, cap, z, e, by omega, h1, h2, h3⟩
attribute [local irreducible] W4 Nz Nt
section
variable (n : Int) (nm : ByteArray) (wd : Int) (f e : Nat) (l m : Int) (c : Int) (s g : Bool) (d : List UInt8) (x : Int) (A : Nat) (w : World) (hf : f ≤ 240)
  (c66 : ∀ W, Calls Tryz.prog 86 #[.string (B d)] W fun r w' => ∃ v, r = .returned v ∧ Nz 251 A v w' ∧ Below W.heap.size W w')
  (c70 : ∀ W v V, Nz 251 V v W → Calls Tryz.prog 55 #[v] W fun r w' => r = .returned (.int .i64 (bl V : Int)) ∧ W = w')
include hf c66 c70
set_option maxHeartbeats 8000000 in
theorem payload_w : Calls Tryz.prog 47 #[DI n nm wd f e l m, PV c s g d x] w fun r w' => r = .returned (A4 (plV f g A)) ∧ Below w.heap.size w w' := by
  have hsm := cell_set_map
  have hds : ∀ W : World, W.drew.heap.size = W.heap.size := fun W => by simp
  have HLT : Hid (plV f g A < 2 ^ 256) := plV_lt g hf
  unfold PV
  go_enter Tryz.func47, Tryz.ntmps47
  go_upto_region 2 with (go_at_call 86; refine (c66 _).mono ?_; rintro r w1 ⟨v1, rfl, hv1, hb1⟩; obtain ⟨hc1, hf1⟩ := bcell hb1; have hz1_0 : w.heap.size < w1.heap.size := lt_below hb1 ltg; have hl1_0 := Nat.le_of_lt hz1_0; have hz1_1 : w.heap.size + 1 < w1.heap.size := lt_below hb1 ltg; have hl1_1 := Nat.le_of_lt hz1_1; have hz1_2 : w.heap.size + 2 < w1.heap.size := lt_below hb1 ltg; have hl1_2 := Nat.le_of_lt hz1_2; have hz1_3 : w.heap.size + 1 + 1 < w1.heap.size := lt_below hb1 ltg; have hl1_3 := Nat.le_of_lt hz1_3; have hA1 := bnext (w0 := w) bgo hb1; have hs1 := hA1.size; clear hb1)
  go_cut [14] from 7 (fun t wc => t = .bool (decide ((f : Int) - 1 < (bl A : Int))) ∧ Nz 251 A v1 wc ∧ wc.cell? ⟨w.heap.size + 1, 2, none⟩ = some (.bool g) ∧ (∀ i, i < 4 → wc.cell? ⟨w.heap.size + 1 + 1, i, none⟩ = some (.int .u64 0)) ∧ (∀ i, wc.frozen? ⟨w.heap.size + 1 + 1, i, none⟩ = false) ∧ Below w.heap.size w wc ∧ w.heap.size + 1 + 1 < wc.heap.size)
  case first =>
    go_region_with (go_at_call 55; refine (c70 _ _ _ (nz_next hv1 bgo)).mono ?_; rintro r w6 ⟨rfl, rfl⟩)
    all_goals (
      go_wp2_with fail
      go_meet
      exact ⟨rfl, nz_next hv1 bgo, by go_simp, zeros4 (by go_simp) (by go_simp) (by go_simp) (by go_simp), fun i => by go_simp, bgo, by first | assumption | (simp; done) | (simp; omega) | omega⟩)
  case rest =>
    obtain ⟨ht, hvc, gs, fz, ffr, hbw, hsz⟩ := hcut
    have hl0 : w.heap.size < wc.heap.size := by omega
    have hl1 : w.heap.size + 1 < wc.heap.size := by omega
    have z0 := fz 0 (by decide)
    have z1 := fz 1 (by decide)
    have z2 := fz 2 (by decide)
    have z3 := fz 3 (by decide)
    go_upto_if 14 with fail
    go_cut [5] from 7 (fun t5 wx => Nz 251 (plA f A) t5 wx ∧ wx = wc)
    case first =>
      by_cases hu : (f : Int) - 1 < (bl A : Int)
      · rw [decide_eq_true hu] at ht
        subst ht
        have e : plA f A = 0 := if_pos hu
        go_wp2
        go_meet
        exact ⟨by rw [e]; exact nz_nil251 wc, rfl⟩
      · rw [decide_eq_false hu] at ht
        subst ht
        have e : plA f A = A := if_neg hu
        go_wp2
        go_meet
        exact ⟨by rw [e]; exact hvc, rfl⟩
    case rest =>
      obtain ⟨hv5, rfl⟩ := hcut
      clear hvc ht
      cases g with
      | false =>
        have e : plV f false A = plA f A := if_neg (by simp)
        go_upto_if 21 with fail
        go_cut [5] from 7 (fun t5 wc => Nz 251 (plV f false A) t5 wc ∧ (∀ i, i < 4 → wc.cell? ⟨w.heap.size + 1 + 1, i, none⟩ = some (.int .u64 0)) ∧ (∀ i, wc.frozen? ⟨w.heap.size + 1 + 1, i, none⟩ = false) ∧ Below w.heap.size w wc ∧ w.heap.size + 1 + 1 < wc.heap.size)
        case first =>
          go_wp2
          go_meet
          exact ⟨by rw [e]; exact hv5, fz, ffr, hbw, hsz⟩
        case rest =>
          clear hv5 gs fz ffr hbw hsz z0 z1 z2 z3 hl0 hl1
          obtain ⟨hv5, fz, ffr, hbw, hsz⟩ := hcut
          have y0 := fz 0 (by decide)
          have y1 := fz 1 (by decide)
          have y2 := fz 2 (by decide)
          have y3 := fz 3 (by decide)
          obtain ⟨a, k, cap, z, rfl, hk, hN, hv, hs⟩ := nz_open hv5
          clear hv5
          have hC := HLT.out
          obtain ⟨C, hCe⟩ : ∃ C, plV f false A = C := ⟨_, rfl⟩
          rw [hCe] at hC hv
          have hk4 : k ≤ 4 := by
            have := (size_bl (m := 4) hN.2.2.1 hv).2 (bl_le.2 hC)
            omega
          have hv4 : val z 4 = (C : Int) := by rw [val_more hN.2.2.2.1 4 hk4, hv]
          have hz : ∀ i, i < 4 → z i = W4 C i := val_inj hN.2.2.1 (W4_words C) 4 (by rw [hv4, W4_val4 hC])
          have eA : A4 C = .agg #[.int .u64 (z 0), .int .u64 (z 1), .int .u64 (z 2), .int .u64 (z 3)] := by
            unfold A4
            rw [hz 0 (by decide), hz 1 (by decide), hz 2 (by decide), hz 3 (by decide)]
          rw [← hCe] at eA
          have zz := hN.2.2.2.1
          obtain ⟨n1, n2, n3, n4, n5⟩ := hN
          clear hz hv4 hv hs n2 n3 n4 HLT c66 c70 hCe
          rcases n5 with ⟨rfl, rfl⟩ | ⟨b, off, rfl, hb, hc⟩
          · obtain rfl : k = 0 := by omega
            rw [zz 0 (by omega), zz 1 (by omega), zz 2 (by omega), zz 3 (by omega)] at eA
            have HEA : Hid (A4 _ = _) := eA
            clear eA
            have hcp := copy0
            go_wp2
            exact bodyPost_ret (v := .agg #[.int .u64 0, .int .u64 0, .int .u64 0, .int .u64 0]) (by simp only [results, Tryz.results47]; go_simp) rfl ⟨by rw [HEA.out], bgo⟩
          · have e0 : b ≤ wc.heap.size := by omega
            have e1 : b < wc.heap.size + 1 := by omega
            have n0 : ¬ b = wc.heap.size := by omega
            have : k = 0 ∨ k = 1 ∨ k = 2 ∨ k = 3 ∨ k = 4 := by omega
            rcases this with rfl | rfl | rfl | rfl | rfl
            · rw [zz 0 (by omega), zz 1 (by omega), zz 2 (by omega), zz 3 (by omega)] at eA; have HEA : Hid (A4 _ = _) := eA; clear eA
              clear hc zz
              have hcp := copy0
              go_wp2
              exact bodyPost_ret (v := .agg #[.int .u64 0, .int .u64 0, .int .u64 0, .int .u64 0]) (by simp only [results, Tryz.results47]; go_simp) rfl ⟨by rw [HEA.out], bgo⟩
            · rw [zz 1 (by omega), zz 2 (by omega), zz 3 (by omega)] at eA; have HEA : Hid (A4 _ = _) := eA; clear eA
              have k0 := hc 0 (by decide)
              simp only [Nat.add_zero] at k0
              clear hc zz
              have hcp := cpy1
              go_wp2
              exact bodyPost_ret (v := .agg #[.int .u64 (z 0), .int .u64 0, .int .u64 0, .int .u64 0]) (by simp only [results, Tryz.results47]; go_simp) rfl ⟨by rw [HEA.out], bgo⟩
            · rw [zz 2 (by omega), zz 3 (by omega)] at eA; have HEA : Hid (A4 _ = _) := eA; clear eA
              have k0 := hc 0 (by decide)
              have k1 := hc 1 (by decide)
              simp only [Nat.add_zero] at k0
              clear hc zz
              have hcp := cpy2
              go_wp2
              exact bodyPost_ret (v := .agg #[.int .u64 (z 0), .int .u64 (z 1), .int .u64 0, .int .u64 0]) (by simp only [results, Tryz.results47]; go_simp) rfl ⟨by rw [HEA.out], bgo⟩
            · rw [zz 3 (by omega)] at eA; have HEA : Hid (A4 _ = _) := eA; clear eA
              have k0 := hc 0 (by decide)
              have k1 := hc 1 (by decide)
              have k2 := hc 2 (by decide)
              simp only [Nat.add_zero] at k0
              clear hc zz
              have hcp := cpy3
              go_wp2
              exact bodyPost_ret (v := .agg #[.int .u64 (z 0), .int .u64 (z 1), .int .u64 (z 2), .int .u64 0]) (by simp only [results, Tryz.results47]; go_simp) rfl ⟨by rw [HEA.out], bgo⟩
            · have HEA : Hid (A4 _ = _) := eA
              clear eA
              have k0 := hc 0 (by decide)
              have k1 := hc 1 (by decide)
              have k2 := hc 2 (by decide)
              have k3 := hc 3 (by decide)
              simp only [Nat.add_zero] at k0
              clear hc zz
              have hcp := cpy4
              go_wp2
              exact bodyPost_ret (v := .agg #[.int .u64 (z 0), .int .u64 (z 1), .int .u64 (z 2), .int .u64 (z 3)]) (by simp only [results, Tryz.results47]; go_simp) rfl ⟨by rw [HEA.out], bgo⟩
      | true =>
        by_cases hz : plA f A = 0
        · have e : plV f true A = 1 := if_pos ⟨rfl, hz⟩
          have hb0 : ((bl (plA f A) : Int) == 0) = true := by rw [hz]; decide
          go_upto_if 21 with (go_at_call 55; refine (c70 _ _ _ hv5).mono ?_; rintro r w6 ⟨rfl, rfl⟩)
          go_cut [5] from 7 (fun t5 wc => Nz 251 (plV f true A) t5 wc ∧ (∀ i, i < 4 → wc.cell? ⟨w.heap.size + 1 + 1, i, none⟩ = some (.int .u64 0)) ∧ (∀ i, wc.frozen? ⟨w.heap.size + 1 + 1, i, none⟩ = false) ∧ Below w.heap.size w wc ∧ w.heap.size + 1 + 1 < wc.heap.size)
          case first =>
            go_wp2
            go_meet
            exact ⟨by rw [e]; exact nz_one rfl rfl (by decide) (by decide), zeros4 (by go_simp) (by go_simp) (by go_simp) (by go_simp), fun i => by go_simp, bgo, by simp; omega⟩
          case rest =>
            clear hv5 gs fz ffr hbw hsz z0 z1 z2 z3 hl0 hl1
            obtain ⟨hv5, fz, ffr, hbw, hsz⟩ := hcut
            have y0 := fz 0 (by decide)
            have y1 := fz 1 (by decide)
            have y2 := fz 2 (by decide)
            have y3 := fz 3 (by decide)
            obtain ⟨a, k, cap, z, rfl, hk, hN, hv, hs⟩ := nz_open hv5
            clear hv5
            have hC := HLT.out
            obtain ⟨C, hCe⟩ : ∃ C, plV f true A = C := ⟨_, rfl⟩
            rw [hCe] at hC hv
            have hk4 : k ≤ 4 := by
              have := (size_bl (m := 4) hN.2.2.1 hv).2 (bl_le.2 hC)
              omega
            have hv4 : val z 4 = (C : Int) := by rw [val_more hN.2.2.2.1 4 hk4, hv]
            have hz : ∀ i, i < 4 → z i = W4 C i := val_inj hN.2.2.1 (W4_words C) 4 (by rw [hv4, W4_val4 hC])
            have eA : A4 C = .agg #[.int .u64 (z 0), .int .u64 (z 1), .int .u64 (z 2), .int .u64 (z 3)] := by
              unfold A4
              rw [hz 0 (by decide), hz 1 (by decide), hz 2 (by decide), hz 3 (by decide)]
            rw [← hCe] at eA
            have zz := hN.2.2.2.1
            obtain ⟨n1, n2, n3, n4, n5⟩ := hN
            clear hz hv4 hv hs n2 n3 n4 HLT c66 c70 hCe
            rcases n5 with ⟨rfl, rfl⟩ | ⟨b, off, rfl, hb, hc⟩
            · obtain rfl : k = 0 := by omega
              rw [zz 0 (by omega), zz 1 (by omega), zz 2 (by omega), zz 3 (by omega)] at eA
              have HEA : Hid (A4 _ = _) := eA
              clear eA
              have hcp := copy0
              go_wp2
              exact bodyPost_ret (v := .agg #[.int .u64 0, .int .u64 0, .int .u64 0, .int .u64 0]) (by simp only [results, Tryz.results47]; go_simp) rfl ⟨by rw [HEA.out], bgo⟩
            · have e0 : b ≤ wc.heap.size := by omega
              have e1 : b < wc.heap.size + 1 := by omega
              have n0 : ¬ b = wc.heap.size := by omega
              have : k = 0 ∨ k = 1 ∨ k = 2 ∨ k = 3 ∨ k = 4 := by omega
              rcases this with rfl | rfl | rfl | rfl | rfl
              · rw [zz 0 (by omega), zz 1 (by omega), zz 2 (by omega), zz 3 (by omega)] at eA; have HEA : Hid (A4 _ = _) := eA; clear eA
                clear hc zz
                have hcp := copy0
                go_wp2
                exact bodyPost_ret (v := .agg #[.int .u64 0, .int .u64 0, .int .u64 0, .int .u64 0]) (by simp only [results, Tryz.results47]; go_simp) rfl ⟨by rw [HEA.out], bgo⟩
              · rw [zz 1 (by omega), zz 2 (by omega), zz 3 (by omega)] at eA; have HEA : Hid (A4 _ = _) := eA; clear eA
                have k0 := hc 0 (by decide)
                simp only [Nat.add_zero] at k0
                clear hc zz
                have hcp := cpy1
                go_wp2
                exact bodyPost_ret (v := .agg #[.int .u64 (z 0), .int .u64 0, .int .u64 0, .int .u64 0]) (by simp only [results, Tryz.results47]; go_simp) rfl ⟨by rw [HEA.out], bgo⟩
              · rw [zz 2 (by omega), zz 3 (by omega)] at eA; have HEA : Hid (A4 _ = _) := eA; clear eA
                have k0 := hc 0 (by decide)
                have k1 := hc 1 (by decide)
                simp only [Nat.add_zero] at k0
                clear hc zz
                have hcp := cpy2
                go_wp2
                exact bodyPost_ret (v := .agg #[.int .u64 (z 0), .int .u64 (z 1), .int .u64 0, .int .u64 0]) (by simp only [results, Tryz.results47]; go_simp) rfl ⟨by rw [HEA.out], bgo⟩
              · rw [zz 3 (by omega)] at eA; have HEA : Hid (A4 _ = _) := eA; clear eA
                have k0 := hc 0 (by decide)
                have k1 := hc 1 (by decide)
                have k2 := hc 2 (by decide)
                simp only [Nat.add_zero] at k0
                clear hc zz
                have hcp := cpy3
                go_wp2
                exact bodyPost_ret (v := .agg #[.int .u64 (z 0), .int .u64 (z 1), .int .u64 (z 2), .int .u64 0]) (by simp only [results, Tryz.results47]; go_simp) rfl ⟨by rw [HEA.out], bgo⟩
              · have HEA : Hid (A4 _ = _) := eA
                clear eA
                have k0 := hc 0 (by decide)
                have k1 := hc 1 (by decide)
                have k2 := hc 2 (by decide)
                have k3 := hc 3 (by decide)
                simp only [Nat.add_zero] at k0
                clear hc zz
                have hcp := cpy4
                go_wp2
                exact bodyPost_ret (v := .agg #[.int .u64 (z 0), .int .u64 (z 1), .int .u64 (z 2), .int .u64 (z 3)]) (by simp only [results, Tryz.results47]; go_simp) rfl ⟨by rw [HEA.out], bgo⟩
        · have e : plV f true A = plA f A := if_neg (by simp [hz])
          have hb0 : ((bl (plA f A) : Int) == 0) = false := by
            rw [beq_eq_false_iff_ne]
            intro h
            exact hz (bl_zero.1 (by omega))
          go_upto_if 21 with (go_at_call 55; refine (c70 _ _ _ hv5).mono ?_; rintro r w6 ⟨rfl, rfl⟩)
          go_cut [5] from 7 (fun t5 wc => Nz 251 (plV f true A) t5 wc ∧ (∀ i, i < 4 → wc.cell? ⟨w.heap.size + 1 + 1, i, none⟩ = some (.int .u64 0)) ∧ (∀ i, wc.frozen? ⟨w.heap.size + 1 + 1, i, none⟩ = false) ∧ Below w.heap.size w wc ∧ w.heap.size + 1 + 1 < wc.heap.size)
          case first =>
            go_wp2
            go_meet
            exact ⟨by rw [e]; exact hv5, fz, ffr, hbw, hsz⟩
          case rest =>
            clear hv5 gs fz ffr hbw hsz z0 z1 z2 z3 hl0 hl1
            obtain ⟨hv5, fz, ffr, hbw, hsz⟩ := hcut
            have y0 := fz 0 (by decide)
            have y1 := fz 1 (by decide)
            have y2 := fz 2 (by decide)
            have y3 := fz 3 (by decide)
            obtain ⟨a, k, cap, z, rfl, hk, hN, hv, hs⟩ := nz_open hv5
            clear hv5
            have hC := HLT.out
            obtain ⟨C, hCe⟩ : ∃ C, plV f true A = C := ⟨_, rfl⟩
            rw [hCe] at hC hv
            have hk4 : k ≤ 4 := by
              have := (size_bl (m := 4) hN.2.2.1 hv).2 (bl_le.2 hC)
              omega
            have hv4 : val z 4 = (C : Int) := by rw [val_more hN.2.2.2.1 4 hk4, hv]
            have hz : ∀ i, i < 4 → z i = W4 C i := val_inj hN.2.2.1 (W4_words C) 4 (by rw [hv4, W4_val4 hC])
            have eA : A4 C = .agg #[.int .u64 (z 0), .int .u64 (z 1), .int .u64 (z 2), .int .u64 (z 3)] := by
              unfold A4
              rw [hz 0 (by decide), hz 1 (by decide), hz 2 (by decide), hz 3 (by decide)]
            rw [← hCe] at eA
            have zz := hN.2.2.2.1
            obtain ⟨n1, n2, n3, n4, n5⟩ := hN
            clear hz hv4 hv hs n2 n3 n4 HLT c66 c70 hCe
            rcases n5 with ⟨rfl, rfl⟩ | ⟨b, off, rfl, hb, hc⟩
            · obtain rfl : k = 0 := by omega
              rw [zz 0 (by omega), zz 1 (by omega), zz 2 (by omega), zz 3 (by omega)] at eA
              have HEA : Hid (A4 _ = _) := eA
              clear eA
              have hcp := copy0
              go_wp2
              exact bodyPost_ret (v := .agg #[.int .u64 0, .int .u64 0, .int .u64 0, .int .u64 0]) (by simp only [results, Tryz.results47]; go_simp) rfl ⟨by rw [HEA.out], bgo⟩
            · have e0 : b ≤ wc.heap.size := by omega
              have e1 : b < wc.heap.size + 1 := by omega
              have n0 : ¬ b = wc.heap.size := by omega
              have : k = 0 ∨ k = 1 ∨ k = 2 ∨ k = 3 ∨ k = 4 := by omega
              rcases this with rfl | rfl | rfl | rfl | rfl
              · rw [zz 0 (by omega), zz 1 (by omega), zz 2 (by omega), zz 3 (by omega)] at eA; have HEA : Hid (A4 _ = _) := eA; clear eA
                clear hc zz
                have hcp := copy0
                go_wp2
                exact bodyPost_ret (v := .agg #[.int .u64 0, .int .u64 0, .int .u64 0, .int .u64 0]) (by simp only [results, Tryz.results47]; go_simp) rfl ⟨by rw [HEA.out], bgo⟩
              · rw [zz 1 (by omega), zz 2 (by omega), zz 3 (by omega)] at eA; have HEA : Hid (A4 _ = _) := eA; clear eA
                have k0 := hc 0 (by decide)
                simp only [Nat.add_zero] at k0
                clear hc zz
                have hcp := cpy1
                go_wp2
                exact bodyPost_ret (v := .agg #[.int .u64 (z 0), .int .u64 0, .int .u64 0, .int .u64 0]) (by simp only [results, Tryz.results47]; go_simp) rfl ⟨by rw [HEA.out], bgo⟩
              · rw [zz 2 (by omega), zz 3 (by omega)] at eA; have HEA : Hid (A4 _ = _) := eA; clear eA
                have k0 := hc 0 (by decide)
                have k1 := hc 1 (by decide)
                simp only [Nat.add_zero] at k0
                clear hc zz
                have hcp := cpy2
                go_wp2
                exact bodyPost_ret (v := .agg #[.int .u64 (z 0), .int .u64 (z 1), .int .u64 0, .int .u64 0]) (by simp only [results, Tryz.results47]; go_simp) rfl ⟨by rw [HEA.out], bgo⟩
              · rw [zz 3 (by omega)] at eA; have HEA : Hid (A4 _ = _) := eA; clear eA
                have k0 := hc 0 (by decide)
                have k1 := hc 1 (by decide)
                have k2 := hc 2 (by decide)
                simp only [Nat.add_zero] at k0
                clear hc zz
                have hcp := cpy3
                go_wp2
                exact bodyPost_ret (v := .agg #[.int .u64 (z 0), .int .u64 (z 1), .int .u64 (z 2), .int .u64 0]) (by simp only [results, Tryz.results47]; go_simp) rfl ⟨by rw [HEA.out], bgo⟩
              · have HEA : Hid (A4 _ = _) := eA
                clear eA
                have k0 := hc 0 (by decide)
                have k1 := hc 1 (by decide)
                have k2 := hc 2 (by decide)
                have k3 := hc 3 (by decide)
                simp only [Nat.add_zero] at k0
                clear hc zz
                have hcp := cpy4
                go_wp2
                exact bodyPost_ret (v := .agg #[.int .u64 (z 0), .int .u64 (z 1), .int .u64 (z 2), .int .u64 (z 3)]) (by simp only [results, Tryz.results47]; go_simp) rfl ⟨by rw [HEA.out], bgo⟩
end
end
end Go.Proofs.YtpemdcnneabbfaaGreatDoor
