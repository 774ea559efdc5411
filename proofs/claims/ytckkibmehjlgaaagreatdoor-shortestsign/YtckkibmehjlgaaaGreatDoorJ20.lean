/-
  Texts that the proof leans on, joined: Gg, Gh, Gi, Gj, Gk, Gl, Gn, Gt, Gu, Gv, Ha, Hb, Hc, Xm, Xa, Xb, Xc, Sc, Sd9.
-/
import Derived.Test.YtckkibmehjlgaaaGreatDoorJ19
import Derived.RegionTactic
import Derived.ChangeAlike
import Derived.BigRegion
import Derived.Laws.Strings2
import Derived.Lib.AppendStr
import Derived.Lib.Builder
import Derived.Deep.AppendLies
import Derived.Lib.ItoaLen
import Derived.Test.YtckkibmehjlgaaaGreatDoorJ17
import Derived.Deep.Cut
import Derived.Deep.CutRange
import Derived.Deep.RegionWith
import Derived.Test.YtckkibmehjlgaaaGreatDoorJ6
import Derived.Test.YtckkibmehjlgaaaGreatDoorJ1
set_option linter.unusedVariables false
set_option linter.unusedSimpArgs false
set_option maxRecDepth 20000
set_option linter.unusedSectionVars false
namespace Go.Proofs.YtckkibmehjlgaaaGreatDoor
open Go.RowKit

end Go.Proofs.YtckkibmehjlgaaaGreatDoor

namespace Go.Proofs.YtckkibmehjlgaaaGreatDoor
open Go.RowKit

/-- a number's parts -/
structure Prt where
  cls : Int
  sg : Bool
  sn : Bool
  dig : List UInt8
  ex : Int
def Prt.v (p : Prt) : Value := PV p.cls p.sg p.sn p.dig p.ex
def Prt.zero : Prt := ⟨0, false, false, [], 0⟩
end Go.Proofs.YtckkibmehjlgaaaGreatDoor

namespace Go.Proofs.YtckkibmehjlgaaaGreatDoor
open Go.RowKit

theorem by_app_at (a b : List UInt8) (i : Nat) : by_ (a ++ b) (a.length + i) = by_ b i := by
  induction a with
  | nil => simp
  | cons c r ih => rw [List.cons_append, List.length_cons, show r.length + 1 + i = (r.length + i) + 1 by omega, by_succ, ih]
end Go.Proofs.YtckkibmehjlgaaaGreatDoor

namespace Go.Proofs.YtckkibmehjlgaaaGreatDoor
open Go.RowKit

/-! a payload, as the document cuts it -/
/-! the whole -/
end Go.Proofs.YtckkibmehjlgaaaGreatDoor

namespace Go.Proofs.YtckkibmehjlgaaaGreatDoor
open Go.RowKit

end Go.Proofs.YtckkibmehjlgaaaGreatDoor

namespace Go.Proofs.YtckkibmehjlgaaaGreatDoor
open Go.RowKit

end Go.Proofs.YtckkibmehjlgaaaGreatDoor

namespace Go.Proofs.YtckkibmehjlgaaaGreatDoor
open Go.RowKit

end Go.Proofs.YtckkibmehjlgaaaGreatDoor

namespace Go.Proofs.YtckkibmehjlgaaaGreatDoor
open Go.RowKit

/-- a row of one's own holds the bytes l, and block H the parts -/
structure Ap (Bs H : Nat) (cs : Array Value) (v : Value) (l : List UInt8) (w0 w : World) : Prop where
  own : w.ownsRow Bs 5 1 v l.length (Lib.byteCells l)
  box : w.heap[H]? = some (.cells cs 72)
  bel : Below Bs w0 w
  bs : Bs ≤ w.heap.size
theorem Ap.lt {Bs H : Nat} {cs : Array Value} {v : Value} {l : List UInt8} {w0 w : World} (h : Ap Bs H cs v l w0 w) : H < w.heap.size := by
  rcases Nat.lt_or_ge H w.heap.size with h' | h'
  · exact h'
  · have := h.box; rw [Array.getElem?_eq_none h'] at this; cases this
theorem Ap.cell {Bs H : Nat} {cs : Array Value} {v : Value} {l : List UInt8} {w0 w : World} (h : Ap Bs H cs v l w0 w) (i : Nat) : w.cell? ⟨H, i, none⟩ = cs[i]? := by
  unfold World.cell?
  have hh := h.box
  simp [hh]
theorem Ap.alloc {Bs H : Nat} {cs : Array Value} {v : Value} {l : List UInt8} {w0 w : World} (h : Ap Bs H cs v l w0 w) (o : Obj) : Ap Bs H cs v l w0 (w.alloc o) :=
  ⟨h.own.alloc o, by
    have := h.lt
    rw [show (w.alloc o).heap[H]? = (w.heap.push o)[H]? from rfl, Array.getElem?_push_lt this, ← Array.getElem?_eq_getElem this]
    exact h.box, h.bel.alloc h.bs _, by simp; have := h.bs; omega⟩
theorem bc_one (l : List UInt8) (b : UInt8) : Lib.byteCells l ++ [.int .u8 b.toNat] = Lib.byteCells (l ++ [b]) := by simp [Lib.byteCells]
theorem news1 (W : World) (b : Int) (H' : Nat) (h : W.heap.size = H') : ∀ j u, [Value.int .u8 b][j]? = some u → (W.alloc (.cells #[.int .u8 b] 5)).cell? ((⟨H', 0, none⟩ : Addr).add j) = some u := by
  subst h
  exact World.news_of_block (w := W.alloc (.cells #[.int .u8 b] 5)) (cs := #[.int .u8 b]) (t := 5) (fr := (0, 0)) (by
    show (W.heap.push _)[W.heap.size]? = _
    simp)
theorem one1 (b : Int) : ∀ u ∈ [Value.int .u8 b], u.oneCell' = true := by simp [Value.oneCell']
theorem Tryz.info5 : (Tryz.prog.info? 5).map (fun i => (i.zero, i.size, i.bytes)) = some (some (.int .u8 0), 1, 1) := by kernel_rfl
end Go.Proofs.YtckkibmehjlgaaaGreatDoor

namespace Go.Proofs.YtckkibmehjlgaaaGreatDoor
open Go.RowKit

theorem own_str {Bs : Nat} {v : Value} {l : List UInt8} {W : World} (h : W.ownsRow Bs 5 1 v l.length (Lib.byteCells l)) (hp : 0 < l.length) : (convert 80 9 v).run Tryz.prog W = .ok (.string (B l)) W := by
  obtain ⟨g, cap, rfl, _, _⟩ := h.form hp
  refine run_convert_bytes_back W 80 9 5 ⟨g, 0, none⟩ cap l Tryz.underlying80 Tryz.underlying5 Tryz.underlying9 fun j hj => ?_
  rw [show (⟨g, 0, none⟩ : Addr).add j = ⟨g, j, none⟩ by unfold Addr.add; split <;> simp_all]
  rw [h.cellAt j (by omega)]
  simp [Lib.byteCells, hj]
end Go.Proofs.YtckkibmehjlgaaaGreatDoor

namespace Go.Proofs.YtckkibmehjlgaaaGreatDoor
open Go.RowKit

def Tb10 (w : World) : Prop := Lib.TabIs Tryz.prog w "internal/strconv.uint64pow10" .u64 Lib.pow10Tab
theorem Tb10.next {w w' : World} (h : Tb10 w) (hb : Below w.heap.size w w') : Tb10 w' := Lib.tabBelow_of_tabIs h w' hb
end Go.Proofs.YtckkibmehjlgaaaGreatDoor

namespace Go.Proofs.YtckkibmehjlgaaaGreatDoor
open Go.RowKit

/-- good digits: none, or digits with no nought ahead -/
def gdD (d : List UInt8) : Prop := d = [] ∨ (isd d = true ∧ by_ d 0 ≠ 48)
end Go.Proofs.YtckkibmehjlgaaaGreatDoor

namespace Go.Proofs.YtckkibmehjlgaaaGreatDoor
open Go.RowKit

theorem itoa_any (e : Int) (w : World) (he : -9223372036854775808 ≤ e ∧ e ≤ 9223372036854775807) (hT : Tb10 w) :
    Calls Tryz.prog 53 #[.int .i64 e] w fun x w' => x = .returned (.string (B (Lib.itoa e))) ∧ Below w.heap.size w w' := by
  refine (Tryz.strconv_Itoa e he.1 he.2 w hT).mono ?_
  rintro x w' ⟨rfl, k, os, rfl⟩
  exact ⟨rfl, ⟨rfl, rfl, rfl, by show w.heap.size ≤ (w.heap ++ os).size; simp, fun b hb => by show (w.heap ++ os)[b]? = w.heap[b]?; rw [Array.getElem?_append_left hb]⟩⟩
end Go.Proofs.YtckkibmehjlgaaaGreatDoor

namespace Go.Proofs.YtckkibmehjlgaaaGreatDoor
open Go.RowKit

end Go.Proofs.YtckkibmehjlgaaaGreatDoor

namespace Go.Proofs.YtckkibmehjlgaaaGreatDoor
open Go.RowKit

end Go.Proofs.YtckkibmehjlgaaaGreatDoor

namespace Go.Proofs.YtckkibmehjlgaaaGreatDoor
open Go.RowKit

attribute [local irreducible] W4 Nz Nt
section
variable (n d : Int) (nm : ByteArray) (wd : Int) (f e : Nat) (l m : Int) (w : World) (hT : Tab w)
include hT
variable (c54 : ∀ W, Tab W → Calls Tryz.prog 73 #[.int .i64 n] W fun r w' => r = .returned (.tuple #[DI n nm wd f e l m, .int .i64 0]) ∧ Below W.heap.size W w')
include c54
end
/-- the number of digits -/
def dV (l : List UInt8) : Nat := (numV (B l) (B l).size).toNat
theorem sb_by (l : List UInt8) (i : Nat) : sb (B l) i = by_ l i := by
  unfold sb by_
  by_cases h : i < l.length
  · rw [dif_pos (show i < (B l).size from h), dif_pos h, B_get]
  · rw [dif_neg (show ¬ i < (B l).size from h), dif_neg h]
theorem dig_B {l : List UInt8} (h : l.all dg = true) : digB (B l) (B l).size = true := by
  refine digB_of _ fun k hk => ?_
  rw [sb_by]
  have hk' : k < l.length := hk
  have h1 := List.all_eq_true.1 h (l[k]'hk') (List.getElem_mem hk')
  unfold dg at h1
  unfold by_
  rw [dif_pos hk']
  have := of_decide_eq_true h1
  omega
theorem dV_lt {l : List UInt8} (h : l.all dg = true) : dV l < 10 ^ l.length ∧ (dV l : Int) = numV (B l) (B l).size := by
  obtain ⟨a, b⟩ := numV_bd _ (dig_B h)
  unfold dV
  generalize numV (B l) (B l).size = V at *
  rw [B_size] at b
  have : ((10 : Int) ^ l.length) = ((10 ^ l.length : Nat) : Int) := by simp
  rw [this] at b
  exact ⟨by omega, by omega⟩
theorem bl_10 {A L k : Nat} (h : A < 10 ^ L) (hk : 4 * L ≤ k) : bl A ≤ k := by
  refine bl_le.2 (Nat.lt_of_lt_of_le h ?_)
  have h1 : 10 ^ L ≤ 16 ^ L := Nat.pow_le_pow_left (by decide) L
  have h2 : (16 : Nat) ^ L = 2 ^ (4 * L) := by rw [Nat.pow_mul]
  exact Nat.le_trans h1 (h2 ▸ Nat.pow_le_pow_right (by decide) hk)
end Go.Proofs.YtckkibmehjlgaaaGreatDoor

namespace Go.Proofs.YtckkibmehjlgaaaGreatDoor
open Go.RowKit

attribute [local irreducible] W4 Nz Nt
section
variable (n : Int) (nm : ByteArray) (wd : Int) (f e : Nat) (l m : Int) (c : Int) (s g : Bool) (d : List UInt8) (x : Int) (A : Nat) (w : World) (hf : f ≤ 240)
  (c66 : ∀ W, Calls Tryz.prog 112 #[.string (B d)] W fun r w' => ∃ v, r = .returned v ∧ Nz 251 A v w' ∧ Below W.heap.size W w')
  (c70 : ∀ W v V, Nz 251 V v W → Calls Tryz.prog 116 #[v] W fun r w' => r = .returned (.int .i64 (bl V : Int)) ∧ W = w')
include hf c66 c70
end
end Go.Proofs.YtckkibmehjlgaaaGreatDoor

namespace Go.Proofs.YtckkibmehjlgaaaGreatDoor
open Go.RowKit

theorem five_bl (k : Nat) : bl (5 ^ k) ≤ 3 * k + 1 := by
  refine bl_le.2 ?_
  have h1 : 5 ^ k ≤ 8 ^ k := Nat.pow_le_pow_left (by decide) k
  have h2 : (8 : Nat) ^ k = 2 ^ (3 * k) := by rw [Nat.pow_mul]
  have h3 : (2 : Nat) ^ (3 * k) < 2 ^ (3 * k + 1) := Nat.pow_lt_pow_right (by decide) (by omega)
  omega
theorem bl_mul (a b : Nat) : bl (a * b) ≤ bl a + bl b := by
  refine bl_le.2 ?_
  rw [Nat.pow_add]
  have h1 := bl_le.1 (Nat.le_refl (bl a))
  have h2 := bl_le.1 (Nat.le_refl (bl b))
  exact Nat.mul_lt_mul'' h1 h2
attribute [local irreducible] W4 Nz Nt
section
variable (n d : Int) (c : Int) (s g : Bool) (l : List UInt8) (x e : Int) (A P R : Nat) (F E : Int) (w : World) (hT : Tab w) (heb : -20000 ≤ e ∧ e ≤ 20000)
  (c65 : ∀ W, Calls Tryz.prog 111 #[PV c s g l x] W fun r w' => r = .returned (.int .i64 e) ∧ Below W.heap.size W w')
  (c66 : ∀ W, Calls Tryz.prog 112 #[.string (B l)] W fun r w' => ∃ v, r = .returned v ∧ Nz 251 A v w' ∧ Below W.heap.size W w')
include hT heb c65 c66
end
section
variable (n d : Int) (c : Int) (s g : Bool) (l : List UInt8) (x : Int) (T : List UInt8) (nm : ByteArray) (wd : Int) (f e : Nat) (lo m : Int) (w : World) (hT : Tab w)
include hT
variable (c28 : ∀ W, Tab W → Calls Tryz.prog 43 #[.int .i64 n, .int .i64 d] W fun r w' => r = .returned (.tuple #[DI n nm wd f e lo m, .int .i64 0]) ∧ Below W.heap.size W w')
include c28
variable (c31 : ∀ W, Below w.heap.size w W → Calls Tryz.prog 78 #[PV c s g l x] W fun r w' => r = .returned (.tuple #[.string (B T), .int .i64 0]) ∧ Below W.heap.size W w')
include c31
end
end Go.Proofs.YtckkibmehjlgaaaGreatDoor

namespace Go.Proofs.YtckkibmehjlgaaaGreatDoor
open Go.RowKit

theorem NT.nz {K V : Nat} {v : Value} {w : World} (h : NT K V v w) : Nz K V v w := by
  obtain ⟨g, k, cap, z, h1, h2, h3, h4, h5⟩ := h
  exact ⟨_, k, cap, z, h1, h2, h3, h4, h5⟩
theorem NT.nt {K V : Nat} {v : Value} {w : World} (h : NT K V v w) : Nt K V v w := h.nz.nt
theorem nmul_w {K K' A P : Nat} {v v' : Value} {w : World} (hK : K < 100000000) (hK' : K' < 100000000) (h : Nt K A v w) (h' : Nt K' P v' w) (hb : bl A + bl P ≤ 127000) :
    Calls Tryz.prog 114 #[v, v'] w fun r w' => ∃ q, r = .returned (.tuple #[q, .int .i64 0]) ∧ NT 2001 (A * P) q w' ∧ Below w.heap.size w w' := by
  obtain ⟨a, k, cap, z, rfl, hk, hN, hv⟩ := h
  obtain ⟨a', k', cap', z', rfl, hk', hN', hv'⟩ := h'
  have s1 := (size_bl (m := (bl A + 63) / 64) hN.2.2.1 hv).2 (by omega)
  have s2 := (size_bl (m := (bl P + 63) / 64) hN'.2.2.1 hv').2 (by omega)
  refine (nmul_any a a' k cap k' cap' z z' w (by omega) (by omega) hN hN' (by omega)).mono fun r w' ⟨g, q, cp, y, e1, hq, hNq, hvq, hsq, hB⟩ => ⟨_, e1, ⟨g, q, cp, y, rfl, by omega, hNq, ?_, hsq⟩, hB⟩
  rw [hvq, hv, hv']; simp
theorem nshl_w {K V : Nat} {v : Value} {w : World} (d : Nat) (hK : K < 100000000) (h : Nt K V v w) (hd : bl V + d ≤ 127000) :
    Calls Tryz.prog 142 #[v, .int .i64 (d : Int)] w fun e w' => ∃ r, e = .returned (.tuple #[r, .int .i64 0]) ∧ NT 2001 (V * 2 ^ d) r w' ∧ Below w.heap.size w w' := by
  obtain ⟨a, k, cap, z, rfl, hk, hN, hv⟩ := h
  have hs := (size_bl (m := (bl V + 63) / 64) hN.2.2.1 hv).2 (by omega)
  refine (nshl_any a k cap z d w (by omega) hN (by omega) (by omega)).mono fun e w' ⟨g, k', cap', z', h1, h2, h3, h4, h5, h6⟩ => ⟨_, h1, ⟨g, k', cap', z', rfl, h2, h3, ?_, h5⟩, h6⟩
  rw [h4, hv]; simp
theorem npow5z (m : Nat) (w : World) (hm : m ≤ 12000) : Calls Tryz.prog 113 #[.int .i64 5, .int .i64 (m : Int)] w fun r w' => ∃ v, r = .returned (.tuple #[v, .int .i64 0]) ∧ NT 2001 (5 ^ m) v w' ∧ Below w.heap.size w w' := by
  refine (npow_any 5 m w (Or.inl rfl) hm).mono fun r w' ⟨g, k, cap, z, e1, hk, hN, hv, hs, hB⟩ => ⟨_, e1, ⟨g, k, cap, z, rfl, hk, hN, ?_, hs⟩, hB⟩
  rw [hv]; simp
theorem nt_un1 {W : World} {g V : Nat} {vi : Int} (hg : g = W.heap.size) (hv : vi = (V : Int)) (hb : V < 18446744073709551616) (h0 : V ≠ 0) : NT 1 V (.slice (some ⟨g, 0, none⟩) 1 1) (W.alloc (.cells #[.int .u64 vi] 22)) := by
  subst hg hv
  refine ⟨_, 1, 1, oneW V, rfl, Nat.le_refl _, num_one W V (by omega), val_one1 V, ?_⟩
  have : oneW (V : Int) 0 ≠ 0 := by simp [oneW]; omega
  simp [sizeL, this]
theorem npow2z (m : Nat) (w : World) (hm : m ≤ 12000) : Calls Tryz.prog 113 #[.int .i64 2, .int .i64 (m : Int)] w fun r w' => ∃ v, r = .returned (.tuple #[v, .int .i64 0]) ∧ Nt 2001 (2 ^ m) v w' ∧ Below w.heap.size w w' := by
  refine (npow_two m w hm).mono fun r w' ⟨g, k, cap, z, e1, hk, hN, hv, hs, hB⟩ => ⟨_, e1, ⟨_, k, cap, z, rfl, hk, hN, ?_⟩, hB⟩
  rw [hv]; simp
theorem bl_small {m : Nat} (hm : m ≤ 10) : bl m ≤ 4 := bl_le.2 (by omega)
attribute [local irreducible] W4 Nz Nt NT
set_option maxHeartbeats 1000000 in
theorem times_v {A : Nat} {v : Value} {w : World} (m : Nat) (hm : m ≤ 10) (h : Nt 2001 A v w) (hb : bl A ≤ 126000) :
    Calls Tryz.prog 97 #[v, .int .u64 (m : Int)] w fun r w' => ∃ q, r = .returned q ∧ NT 2001 (A * m) q w' ∧ Below w.heap.size w w' := by
  have hbm := bl_small hm
  have c114 : ∀ W v', Below w.heap.size w W → Nt 1 m v' W → Calls Tryz.prog 114 #[v, v'] W fun r w' => ∃ q, r = .returned (.tuple #[q, .int .i64 0]) ∧ NT 2001 (A * m) q w' ∧ Below W.heap.size W w' := fun W v' hW hv' => nmul_w (by decide) (by decide) (h.next hW) hv' (by omega)
  go_enter Tryz.func97, Tryz.ntmps97
  go_wp2_with (go_at_call 114; refine (c114 _ _ bgo (nt_one (by simp) rfl (by omega))).mono ?_; rintro r w1 ⟨q, rfl, hq, hb1⟩)
  go_ret
  exact ⟨q, rfl, hq, bnx (below1 w _) hb1⟩
/-- the coefficient of a datum, in its place -/
theorem nt_at {W : World} {g k : Nat} (hk : k < 2 ^ 256) (hg : g < W.heap.size) (h0 : W.cell? ⟨g, 4, none⟩ = some (.int .u64 (W4 k 0))) (h1 : W.cell? ⟨g, 5, none⟩ = some (.int .u64 (W4 k 1))) (h2 : W.cell? ⟨g, 6, none⟩ = some (.int .u64 (W4 k 2))) (h3 : W.cell? ⟨g, 7, none⟩ = some (.int .u64 (W4 k 3))) :
    Nt 4 k (.slice (some ⟨g, 4, none⟩) 4 4) W := by
  unfold Nt
  refine ⟨some ⟨g, 4, none⟩, 4, 4, fun i => if i < 4 then W4 k i else 0, rfl, Nat.le_refl _, ⟨Nat.le_refl _, by unfold maxLen; omega, fun i => ?_, fun i hi => if_neg (by omega), Or.inr ⟨g, 4, rfl, hg, fun i hi => ?_⟩⟩, ?_⟩
  · dsimp only
    split
    · exact W4_words k i
    · exact ⟨Int.le_refl _, by decide⟩
  · have : i = 0 ∨ i = 1 ∨ i = 2 ∨ i = 3 := by omega
    rcases this with rfl | rfl | rfl | rfl
    · exact h0
    · exact h1
    · exact h2
    · exact h3
  · have e := W4_val4 hk
    rw [← e]
    simp [val]
theorem gs_bd (y : Int) (h : -200000 ≤ y ∧ y ≤ 200000) : -100000 ≤ (y * 30103).tdiv 100000 ∧ (y * 30103).tdiv 100000 ≤ 100000 := by
  by_cases h0 : 0 ≤ y
  · rw [Int.tdiv_eq_ediv_of_nonneg (by omega)]; omega
  · rw [show y * 30103 = -(-y * 30103) by omega, Int.neg_tdiv, Int.tdiv_eq_ediv_of_nonneg (by omega)]; omega
/-- the guessed place of the first digit -/
def gsP (k : Nat) (x : Int) : Int := (((bl k : Int) - 1 + x) * 30103).tdiv 100000 - 1
set_option maxHeartbeats 1000000 in
theorem guess_v (c : Int) (s g : Bool) (x : Int) (k : Nat) (w : World) (hk : k < 2 ^ 256) (hx : -100000 ≤ x ∧ x ≤ 100000) :
    Calls Tryz.prog 95 #[DV c s g x k] w fun r w' => r = .returned (.int .i64 (gsP k x)) ∧ Below w.heap.size w w' := by
  have hbk : bl k ≤ 256 := bl_le.2 hk
  have hgs := gs_bd ((bl k : Int) - 1 + x) (by omega)
  have hn0 : Nt 4 k (.slice (some ⟨w.heap.size, 4, none⟩) 4 4) (w.alloc (.cells #[.int .i64 c, .bool s, .bool g, .int .i64 x, .int .u64 (W4 k 0), .int .u64 (W4 k 1), .int .u64 (W4 k 2), .int .u64 (W4 k 3)] 35)) := nt_at hk (by simp) (by go_simp) (by go_simp) (by go_simp) (by go_simp)
  have c116 : ∀ W, Below (w.alloc (.cells #[.int .i64 c, .bool s, .bool g, .int .i64 x, .int .u64 (W4 k 0), .int .u64 (W4 k 1), .int .u64 (W4 k 2), .int .u64 (W4 k 3)] 35)).heap.size (w.alloc (.cells #[.int .i64 c, .bool s, .bool g, .int .i64 x, .int .u64 (W4 k 0), .int .u64 (W4 k 1), .int .u64 (W4 k 2), .int .u64 (W4 k 3)] 35)) W → Calls Tryz.prog 116 #[.slice (some ⟨w.heap.size, 4, none⟩) 4 4] W fun e w' => e = .returned (.int .i64 (bl k : Int)) ∧ Below W.heap.size W w' := fun W hW => (nlen_v (by decide) (hn0.next hW)).mono fun e w' ⟨h1, h2⟩ => ⟨h1, h2 ▸ Below.refl _ _⟩
  have hb0 := below1 w (.cells #[.int .i64 c, .bool s, .bool g, .int .i64 x, .int .u64 (W4 k 0), .int .u64 (W4 k 1), .int .u64 (W4 k 2), .int .u64 (W4 k 3)] 35)
  have hsm := cell_set_map
  unfold DV
  go_enter Tryz.func95, Tryz.ntmps95
  go_wp2
  refine wp_whole (by kernel_rfl) (by kernel_rfl) fun hne hcell => ?_
  repeat go_big_quiet_step (fail)
  go_big_quiet_step ((go_at_call 116; exact calls_wd _ bk_next (c116 _ (Wd.h _))))
  repeat go_big_quiet_step (fail)
  refine wpQuiet_nil fun w1 hb1 => ?_
  have hA1 := bnx hb0 hb1
  go_wp2
  go_ret
  exact ⟨rfl, hA1⟩
end Go.Proofs.YtckkibmehjlgaaaGreatDoor

namespace Go.Proofs.YtckkibmehjlgaaaGreatDoor
open Go.RowKit

attribute [local irreducible] W4 Nz Nt NT
section
variable (x p : Int) (A B C D : Nat) (w : World) (hx : -100000 ≤ x ∧ x ≤ 100000) (hp : -100000 ≤ p ∧ p ≤ 100000)
include hx hp
set_option maxHeartbeats 1000000 in
theorem frac_nn (h1 : p < 0) (h2 : x - p < 0)
    (c113 : ∀ W, Calls Tryz.prog 113 #[.int .i64 5, .int .i64 (-p)] W fun r w' => ∃ v, r = .returned (.tuple #[v, .int .i64 0]) ∧ NT 2001 A v w' ∧ Below W.heap.size W w')
    (c142 : ∀ W v, NT 1 1 v W → Calls Tryz.prog 142 #[v, .int .i64 (-(x - p))] W fun r w' => ∃ v, r = .returned (.tuple #[v, .int .i64 0]) ∧ NT 2001 B v w' ∧ Below W.heap.size W w') :
    Calls Tryz.prog 122 #[.int .i64 x, .int .i64 p] w fun r w' => ∃ a b, r = .returned (.tuple #[a, b]) ∧ NT 2001 A a w' ∧ NT 2001 B b w' ∧ Below w.heap.size w w' := by
  have hone : NT 1 1 (.slice (some ⟨w.heap.size + 1, 0, none⟩) 1 1) ((w.alloc (.cells #[.int .u64 1] 22)).alloc (.cells #[.int .u64 1] 22)) := nt_un1 (by simp) rfl (by decide) (by decide)
  have hb0 := bnx (below1 w (.cells #[.int .u64 1] 22)) (below1 (w.alloc (.cells #[.int .u64 1] 22)) (.cells #[.int .u64 1] 22))
  go_enter Tryz.func122, Tryz.ntmps122
  go_wp2_with (first
    | (go_at_call 113; refine (c113 _).mono ?_; rintro r w1 ⟨v1, rfl, hv1, hb1⟩)
    | (go_at_call 142; refine (c142 _ _ (hone.next hb1)).mono ?_; rintro r w2 ⟨v2, rfl, hv2, hb2⟩))
  exact bodyPost_ret (v := .tuple #[v1, v2]) (by simp only [results, Tryz.results122]; go_simp) rfl ⟨_, _, rfl, hv1.next hb2, hv2, bnx (bnx hb0 hb1) hb2⟩
set_option maxHeartbeats 1000000 in
theorem frac_np (h1 : p < 0) (h2 : ¬ x - p < 0)
    (c113 : ∀ W, Calls Tryz.prog 113 #[.int .i64 5, .int .i64 (-p)] W fun r w' => ∃ v, r = .returned (.tuple #[v, .int .i64 0]) ∧ NT 2001 A v w' ∧ Below W.heap.size W w')
    (c142 : ∀ W v, NT 2001 A v W → Calls Tryz.prog 142 #[v, .int .i64 (x - p)] W fun r w' => ∃ v, r = .returned (.tuple #[v, .int .i64 0]) ∧ NT 2001 B v w' ∧ Below W.heap.size W w') :
    Calls Tryz.prog 122 #[.int .i64 x, .int .i64 p] w fun r w' => ∃ a b, r = .returned (.tuple #[a, b]) ∧ NT 2001 B a w' ∧ NT 1 1 b w' ∧ Below w.heap.size w w' := by
  have hone : NT 1 1 (.slice (some ⟨w.heap.size + 1, 0, none⟩) 1 1) ((w.alloc (.cells #[.int .u64 1] 22)).alloc (.cells #[.int .u64 1] 22)) := nt_un1 (by simp) rfl (by decide) (by decide)
  have hb0 := bnx (below1 w (.cells #[.int .u64 1] 22)) (below1 (w.alloc (.cells #[.int .u64 1] 22)) (.cells #[.int .u64 1] 22))
  go_enter Tryz.func122, Tryz.ntmps122
  go_wp2_with (first
    | (go_at_call 113; refine (c113 _).mono ?_; rintro r w1 ⟨v1, rfl, hv1, hb1⟩)
    | (go_at_call 142; refine (c142 _ _ hv1).mono ?_; rintro r w2 ⟨v2, rfl, hv2, hb2⟩))
  exact bodyPost_ret (v := .tuple #[v2, _]) (by simp only [results, Tryz.results122]; go_simp) rfl ⟨_, _, rfl, hv2, (hone.next hb1).next hb2, bnx (bnx hb0 hb1) hb2⟩
set_option maxHeartbeats 1000000 in
theorem frac_pn (h1 : ¬ p < 0) (h2 : x - p < 0)
    (c113 : ∀ W, Calls Tryz.prog 113 #[.int .i64 5, .int .i64 p] W fun r w' => ∃ v, r = .returned (.tuple #[v, .int .i64 0]) ∧ NT 2001 A v w' ∧ Below W.heap.size W w')
    (c142 : ∀ W v, NT 2001 A v W → Calls Tryz.prog 142 #[v, .int .i64 (-(x - p))] W fun r w' => ∃ v, r = .returned (.tuple #[v, .int .i64 0]) ∧ NT 2001 B v w' ∧ Below W.heap.size W w') :
    Calls Tryz.prog 122 #[.int .i64 x, .int .i64 p] w fun r w' => ∃ a b, r = .returned (.tuple #[a, b]) ∧ NT 1 1 a w' ∧ NT 2001 B b w' ∧ Below w.heap.size w w' := by
  have hone : NT 1 1 (.slice (some ⟨w.heap.size, 0, none⟩) 1 1) (w.alloc (.cells #[.int .u64 1] 22)) := nt_un1 rfl rfl (by decide) (by decide)
  have hone1 := hone.next (below1 (w.alloc (.cells #[.int .u64 1] 22)) (.cells #[.int .u64 1] 22))
  have hb0 := bnx (below1 w (.cells #[.int .u64 1] 22)) (below1 (w.alloc (.cells #[.int .u64 1] 22)) (.cells #[.int .u64 1] 22))
  go_enter Tryz.func122, Tryz.ntmps122
  go_wp2_with (first
    | (go_at_call 113; refine (c113 _).mono ?_; rintro r w1 ⟨v1, rfl, hv1, hb1⟩)
    | (go_at_call 142; refine (c142 _ _ hv1).mono ?_; rintro r w2 ⟨v2, rfl, hv2, hb2⟩))
  exact bodyPost_ret (v := .tuple #[_, v2]) (by simp only [results, Tryz.results122]; go_simp) rfl ⟨_, _, rfl, (hone1.next hb1).next hb2, hv2, bnx (bnx hb0 hb1) hb2⟩
set_option maxHeartbeats 1000000 in
theorem frac_pp (h1 : ¬ p < 0) (h2 : ¬ x - p < 0)
    (c113 : ∀ W, Calls Tryz.prog 113 #[.int .i64 5, .int .i64 p] W fun r w' => ∃ v, r = .returned (.tuple #[v, .int .i64 0]) ∧ NT 2001 A v w' ∧ Below W.heap.size W w')
    (c142 : ∀ W v, NT 1 1 v W → Calls Tryz.prog 142 #[v, .int .i64 (x - p)] W fun r w' => ∃ v, r = .returned (.tuple #[v, .int .i64 0]) ∧ NT 2001 B v w' ∧ Below W.heap.size W w') :
    Calls Tryz.prog 122 #[.int .i64 x, .int .i64 p] w fun r w' => ∃ a b, r = .returned (.tuple #[a, b]) ∧ NT 2001 B a w' ∧ NT 2001 A b w' ∧ Below w.heap.size w w' := by
  have hone : NT 1 1 (.slice (some ⟨w.heap.size, 0, none⟩) 1 1) (w.alloc (.cells #[.int .u64 1] 22)) := nt_un1 rfl rfl (by decide) (by decide)
  have hone1 := hone.next (below1 (w.alloc (.cells #[.int .u64 1] 22)) (.cells #[.int .u64 1] 22))
  have hb0 := bnx (below1 w (.cells #[.int .u64 1] 22)) (below1 (w.alloc (.cells #[.int .u64 1] 22)) (.cells #[.int .u64 1] 22))
  go_enter Tryz.func122, Tryz.ntmps122
  go_wp2_with (first
    | (go_at_call 113; refine (c113 _).mono ?_; rintro r w1 ⟨v1, rfl, hv1, hb1⟩)
    | (go_at_call 142; refine (c142 _ _ (hone1.next hb1)).mono ?_; rintro r w2 ⟨v2, rfl, hv2, hb2⟩))
  exact bodyPost_ret (v := .tuple #[v2, v1]) (by simp only [results, Tryz.results122]; go_simp) rfl ⟨_, _, rfl, hv2, hv1.next hb2, bnx (bnx hb0 hb1) hb2⟩
end
/-- 2^x over 10^p, the twos of both together -/
theorem fraction_v (x p : Int) (w : World) (hx : -17000 ≤ x ∧ x ≤ 17000) (hp : -6000 ≤ p ∧ p ≤ 6000) :
    Calls Tryz.prog 122 #[.int .i64 x, .int .i64 p] w fun r w' => ∃ a b, r = .returned (.tuple #[a, b]) ∧ NT 2001 (5 ^ (-p).toNat * 2 ^ (x - p).toNat) a w' ∧ NT 2001 (5 ^ p.toNat * 2 ^ (-(x - p)).toNat) b w' ∧ Below w.heap.size w w' := by
  have b1 := five_bl (-p).toNat
  have b2 := five_bl p.toNat
  have bo : bl 1 = 1 := rfl
  have c113 : ∀ (m : Nat) (k : Int), k = (m : Int) → m ≤ 12000 → ∀ W, Calls Tryz.prog 113 #[.int .i64 5, .int .i64 k] W fun r w' => ∃ v, r = .returned (.tuple #[v, .int .i64 0]) ∧ NT 2001 (5 ^ m) v w' ∧ Below W.heap.size W w' := by
    rintro m k rfl hm W
    exact npow5z m W hm
  have c142 : ∀ (V K m : Nat) (k : Int), k = (m : Int) → K < 100000000 → bl V + m ≤ 127000 → ∀ W v, NT K V v W → Calls Tryz.prog 142 #[v, .int .i64 k] W fun r w' => ∃ v, r = .returned (.tuple #[v, .int .i64 0]) ∧ NT 2001 (V * 2 ^ m) v w' ∧ Below W.heap.size W w' := by
    rintro V K m k rfl hK hb W v hv
    exact nshl_w m hK hv.nt hb
  by_cases h1 : p < 0
  · have e1 : p.toNat = 0 := by omega
    by_cases h2 : x - p < 0
    · have e2 : (x - p).toNat = 0 := by omega
      refine (frac_nn x p _ _ w (by omega) (by omega) h1 h2 (c113 (-p).toNat _ (by omega) (by omega)) (c142 1 1 (-(x - p)).toNat _ (by omega) (by decide) (by omega))).mono fun r w' ⟨a, b, h3, h4, h5, h6⟩ => ⟨a, b, h3, ?_, ?_, h6⟩
      · rw [e2, Nat.pow_zero, Nat.mul_one]; exact h4
      · rw [e1, Nat.pow_zero]; exact h5
    · have e2 : (-(x - p)).toNat = 0 := by omega
      refine (frac_np x p _ _ w (by omega) (by omega) h1 h2 (c113 (-p).toNat _ (by omega) (by omega)) (fun W v hv => c142 _ 2001 (x - p).toNat _ (by omega) (by decide) (by omega) W v hv)).mono fun r w' ⟨a, b, h3, h4, h5, h6⟩ => ⟨a, b, h3, h4, ?_, h6⟩
      rw [e1, e2]; exact h5.more (by decide)
  · have e1 : (-p).toNat = 0 := by omega
    by_cases h2 : x - p < 0
    · have e2 : (x - p).toNat = 0 := by omega
      refine (frac_pn x p _ _ w (by omega) (by omega) h1 h2 (c113 p.toNat _ (by omega) (by omega)) (fun W v hv => c142 _ 2001 (-(x - p)).toNat _ (by omega) (by decide) (by omega) W v hv)).mono fun r w' ⟨a, b, h3, h4, h5, h6⟩ => ⟨a, b, h3, ?_, h5, h6⟩
      rw [e1, e2]; exact h4.more (by decide)
    · have e2 : (-(x - p)).toNat = 0 := by omega
      refine (frac_pp x p _ _ w (by omega) (by omega) h1 h2 (c113 p.toNat _ (by omega) (by omega)) (c142 1 1 (x - p).toNat _ (by omega) (by decide) (by omega))).mono fun r w' ⟨a, b, h3, h4, h5, h6⟩ => ⟨a, b, h3, ?_, ?_, h6⟩
      · rw [e1, Nat.pow_zero]; exact h4
      · rw [e2, Nat.pow_zero, Nat.mul_one]; exact h5
section
variable (n : Int) (c : Int) (s g : Bool) (x : Int) (k : Nat) (nm : ByteArray) (wd : Int) (f e : Nat) (l m : Int) (w : World) (hT : Tab w) (hk : k < 2 ^ 256) (hf : f ≤ 300)
  (c73 : ∀ W, Tab W → Calls Tryz.prog 73 #[.int .i64 n] W fun r w' => r = .returned (.tuple #[DI n nm wd f e l m, .int .i64 0]) ∧ Below W.heap.size W w')
  (c113 : ∀ W, Calls Tryz.prog 113 #[.int .i64 2, .int .i64 (f : Int)] W fun r w' => ∃ v, r = .returned (.tuple #[v, .int .i64 0]) ∧ Nt 2001 (2 ^ f) v w' ∧ Below W.heap.size W w')
include hT hk hf c73 c113
set_option maxHeartbeats 2000000 in
theorem near_l (h : ¬ l < x) :
    Calls Tryz.prog 123 #[.int .i64 n, DV c s g x k] w fun r w' => r = .returned (.bool false) ∧ Below w.heap.size w w' := by
  have hsm := cell_set_map
  unfold DV
  go_enter Tryz.func123, Tryz.ntmps123
  go_wp2_with (first
    | (go_at_call 73; refine (c73 _ (hT.go bgo)).mono ?_; rintro r w1 ⟨rfl, hb1⟩; obtain ⟨hc1, hf1⟩ := bcell hb1; have hz1_0 : w.heap.size < w1.heap.size := lt_below hb1 ltg; have hl1_0 := Nat.le_of_lt hz1_0; have hA1 := bnext (w0 := w) bgo hb1; have hs1 := hA1.size; clear hb1)
    | (go_at_call 113; refine (c113 _).mono ?_; rintro r w2 ⟨v2, rfl, hv2, hb2⟩; obtain ⟨hc2, hf2⟩ := bcell hb2; have hz2_0 : w.heap.size < w2.heap.size := lt_below hb2 ltg; have hl2_0 := Nat.le_of_lt hz2_0; have hz2_1 : w1.heap.size < w2.heap.size := lt_below hb2 ltg; have hl2_1 := Nat.le_of_lt hz2_1; have hA2 := bnext (w0 := w) bgo hb2; have hs2 := hA2.size; clear hb2))
  go_ret
  exact ⟨rfl, bgo⟩
set_option maxHeartbeats 2000000 in
theorem near_g (h : l < x) (sv : Int)
    (c98 : ∀ W v, Nt 4 k (.slice (some ⟨w.heap.size, 4, none⟩) 4 4) W → Nt 2001 (2 ^ f) v W → Calls Tryz.prog 98 #[.slice (some ⟨w.heap.size, 4, none⟩) 4 4, v] W fun r w' => r = .returned (.int .i64 sv) ∧ Below W.heap.size W w') :
    Calls Tryz.prog 123 #[.int .i64 n, DV c s g x k] w fun r w' => r = .returned (.bool (sv == 0)) ∧ Below w.heap.size w w' := by
  have hsm := cell_set_map
  unfold DV
  go_enter Tryz.func123, Tryz.ntmps123
  go_wp2_with (first
    | (go_at_call 73; refine (c73 _ (hT.go bgo)).mono ?_; rintro r w1 ⟨rfl, hb1⟩; obtain ⟨hc1, hf1⟩ := bcell hb1; have hz1_0 : w.heap.size < w1.heap.size := lt_below hb1 ltg; have hl1_0 := Nat.le_of_lt hz1_0; have hA1 := bnext (w0 := w) bgo hb1; have hs1 := hA1.size; clear hb1)
    | (go_at_call 113; refine (c113 _).mono ?_; rintro r w2 ⟨v2, rfl, hv2, hb2⟩; obtain ⟨hc2, hf2⟩ := bcell hb2; have hz2_0 : w.heap.size < w2.heap.size := lt_below hb2 ltg; have hl2_0 := Nat.le_of_lt hz2_0; have hz2_1 : w1.heap.size < w2.heap.size := lt_below hb2 ltg; have hl2_1 := Nat.le_of_lt hz2_1; have hA2 := bnext (w0 := w) bgo hb2; have hs2 := hA2.size; clear hb2)
    | (go_at_call 98; refine (c98 _ _ (nt_at hk (by assumption) (by go_simp) (by go_simp) (by go_simp) (by go_simp)) hv2).mono ?_; rintro r w3 ⟨rfl, hb3⟩; obtain ⟨hc3, hf3⟩ := bcell hb3; have hz3_0 : w.heap.size < w3.heap.size := lt_below hb3 ltg; have hl3_0 := Nat.le_of_lt hz3_0; have hz3_1 : w1.heap.size < w3.heap.size := lt_below hb3 ltg; have hl3_1 := Nat.le_of_lt hz3_1; have hA3 := bnext (w0 := w) bgo hb3; have hs3 := hA3.size; clear hb3))
  go_ret
  exact ⟨rfl, bgo⟩
end
/-- is the next number below nearer than the next one above -/
def nbB (n x : Int) (k : Nat) : Bool := decide (leastN n < x) && decide (k = 2 ^ fN n)
theorem near_v (n : Int) (c : Int) (s g : Bool) (x : Int) (k : Nat) (w : World) (hT : Tab w) (hb : binN n) (hk : k < 2 ^ 256) :
    Calls Tryz.prog 123 #[.int .i64 n, DV c s g x k] w fun r w' => r = .returned (.bool (nbB n x k)) ∧ Below w.heap.size w w' := by
  have hf := (bin_fm hb).f240
  have c73 := fun W (hT : Tab W) => dof_bin hb W hT
  have c113 := fun W => npow2z (fN n) W (by omega)
  unfold nbB
  by_cases h : leastN n < x
  · rw [decide_eq_true h, Bool.true_and]
    have := near_g n c s g x k (nameN n) (widthN n) (fN n) (eN n) (leastN n) (mostN n) w hT hk (by omega) c73 c113 h (sgn (k : Int) ((2 ^ fN n : Nat) : Int)) (fun W v h1 h2 => ncmp_v (by decide) (by decide) h1 h2)
    refine this.mono fun r w' ⟨h1, h2⟩ => ⟨?_, h2⟩
    rw [h1]
    rcases sgn_ways (k : Int) ((2 ^ fN n : Nat) : Int) with ⟨a, e⟩ | ⟨a, e⟩ | ⟨a, e⟩
    · rw [e, decide_eq_false (by omega)]; rfl
    · rw [e, decide_eq_true (by omega)]; rfl
    · rw [e, decide_eq_false (by omega)]; rfl
  · rw [decide_eq_false h, Bool.false_and]
    exact near_l n c s g x k (nameN n) (widthN n) (fN n) (eN n) (leastN n) (mostN n) w hT hk (by omega) c73 c113 h
end Go.Proofs.YtckkibmehjlgaaaGreatDoor
