/-
  Texts that the proof leans on, joined: Se9, Sj9, Sk9, Sl9, Su9, Me, Mp, Lai, Xf, Xr, Xs, Sp9, St9, Sw9, Kg.
-/
import Derived.Test.YtplocajjfoiklaaGreatDoorL27
import Derived.StillTail
import Derived.Below
import Derived.WalkKit
import Derived.Test.YtplocajjfoiklaaGreatDoorL25
import Derived.Test.YtplocajjfoiklaaGreatDoorL20
import Derived.Test.YtplocajjfoiklaaGreatDoorL12
import Derived.Test.YtplocajjfoiklaaGreatDoorL7
import Derived.Laws.BytesArg
import Derived.Test.YtplocajjfoiklaaGreatDoorL19
import Derived.Test.YtplocajjfoiklaaGreatDoorL1
import Derived.Test.YtplocajjfoiklaaGreatDoorL14
import Derived.Lib.SmallJoins
import Derived.Test.YtplocajjfoiklaaGreatDoorL26
import Derived.Deep.Cut
import Derived.Deep.CutRange
import Derived.Test.YtplocajjfoiklaaGreatDoorL24
import Derived.Test.YtplocajjfoiklaaGreatDoorL18
import Derived.Test.YtplocajjfoiklaaGreatDoorL5
import Derived.Test.YtplocajjfoiklaaGreatDoorL2
import Derived.Shelf.SlicesE.Reverse
import Derived.Test.YtplocajjfoiklaaGreatDoorL11
import Derived.Test.YtplocajjfoiklaaGreatDoorL8
set_option linter.unusedVariables false
set_option linter.unusedSectionVars false
set_option linter.unusedSimpArgs false
set_option maxRecDepth 20000
namespace Go.Proofs.YtplocajjfoiklaaGreatDoor
open Go.RowKit

/-- a slice -/
def isSl (v : Value) : Prop := ∃ a k c, v = .slice a k c
/-- the block g is a reach -/
structure Rch (g : Nat) (vn vb va vw : Value) (c : Bool) (w : World) : Prop where
  blk : w.heap[g]? = some (.cells #[vn, vb, va, vw, .bool c] 212)
  s0 : isSl vn
  s1 : isSl vb
  s2 : isSl va
  s3 : isSl vw
/-- all but block g is as it was, but for what is new -/
structure Mut (g : Nat) (w w' : World) : Prop where
  os : w'.os = w.os
  tape : w'.tape = w.tape
  output : w'.output = w.output
  size : w.heap.size ≤ w'.heap.size
  block : ∀ k, k < w.heap.size → k ≠ g → w'.heap[k]? = w.heap[k]?
theorem Mut.refl (g : Nat) (w : World) : Mut g w w := ⟨rfl, rfl, rfl, Nat.le_refl _, fun _ _ _ => rfl⟩
theorem Mut.trans {g : Nat} {a b c : World} (h : Mut g a b) (k : Mut g b c) : Mut g a c :=
  ⟨k.os.trans h.os, k.tape.trans h.tape, k.output.trans h.output, Nat.le_trans h.size k.size, fun i hi hg => (k.block i (Nat.lt_of_lt_of_le hi h.size) hg).trans (h.block i hi hg)⟩
theorem Mut.below {g : Nat} {a b : World} (h : Below a.heap.size a b) : Mut g a b := ⟨h.os, h.tape, h.output, h.size, fun k hk _ => h.block k hk⟩
theorem Mut.set {g : Nat} {a b : World} (h : Mut g a b) (i : Nat) (v : Value) : Mut g a (b.setCell ⟨g, i, none⟩ v) :=
  h.trans ⟨rfl, rfl, rfl, by simp [World.setCell], fun k _ hk => Below.heap_setCell _ _ _ _ hk⟩
theorem Mut.out {g B : Nat} {w0 w w' : World} (h : Mut g w w') (h0 : Below B w0 w) (hB : B ≤ g) (hs : B ≤ w0.heap.size) : Below B w0 w' :=
  h0.trans ⟨h.os, h.tape, h.output, h.size, fun k hk => h.block k (by have := h0.size; omega) (by omega)⟩
theorem Rch.lt {g : Nat} {vn vb va vw : Value} {c : Bool} {w : World} (h : Rch g vn vb va vw c w) : g < w.heap.size := by
  rcases Nat.lt_or_ge g w.heap.size with h' | h'
  · exact h'
  · have := h.blk; rw [Array.getElem?_eq_none h'] at this; cases this
theorem Rch.next {g : Nat} {vn vb va vw : Value} {c : Bool} {w w' : World} (h : Rch g vn vb va vw c w) (hb : Below w.heap.size w w') : Rch g vn vb va vw c w' :=
  ⟨(hb.block g h.lt).trans h.blk, h.s0, h.s1, h.s2, h.s3⟩
theorem Rch.cell {g : Nat} {vn vb va vw : Value} {c : Bool} {w : World} (h : Rch g vn vb va vw c w) (i : Nat) : w.cell? ⟨g, i, none⟩ = (#[vn, vb, va, vw, .bool c] : Array Value)[i]? := by
  unfold World.cell?
  simp [h.blk]
theorem Rch.cells {g : Nat} {vn vb va vw : Value} {c : Bool} {w : World} (h : Rch g vn vb va vw c w) :
    w.cell? ⟨g, 0, none⟩ = some vn ∧ w.cell? ⟨g, 1, none⟩ = some vb ∧ w.cell? ⟨g, 2, none⟩ = some va ∧ w.cell? ⟨g, 3, none⟩ = some vw ∧ w.cell? ⟨g, 4, none⟩ = some (.bool c) :=
  ⟨h.cell 0, h.cell 1, h.cell 2, h.cell 3, h.cell 4⟩
theorem Rch.set {g : Nat} {vn vb va vw : Value} {c : Bool} {w : World} (h : Rch g vn vb va vw c w) (v : Value) (hv : isSl v) :
    Rch g v vb va vw c (w.setCell ⟨g, 0, none⟩ v) ∧ Rch g vn v va vw c (w.setCell ⟨g, 1, none⟩ v) ∧ Rch g vn vb v vw c (w.setCell ⟨g, 2, none⟩ v) ∧ Rch g vn vb va v c (w.setCell ⟨g, 3, none⟩ v) := by
  have hb := h.blk
  refine ⟨⟨?_, hv, h.s1, h.s2, h.s3⟩, ⟨?_, h.s0, hv, h.s2, h.s3⟩, ⟨?_, h.s0, h.s1, hv, h.s3⟩, ⟨?_, h.s0, h.s1, h.s2, hv⟩⟩ <;>
    simp [World.setCell, Array.getElem?_modify, hb]
attribute [local irreducible] W4 Nz Nt NT
section
variable (g : Nat) (vn vb va vw : Value) (c : Bool) (w : World) (hR : Rch g vn vb va vw c w)
include hR
end
end Go.Proofs.YtplocajjfoiklaaGreatDoor

namespace Go.Proofs.YtplocajjfoiklaaGreatDoor
open Go.RowKit

theorem tn_ex {k : Nat} {x : Int} : ∀ (d : Nat) (g0 : Int), tnP k x g0 → ¬ tnP k x (g0 + d) → ∃ E, g0 ≤ E ∧ E < g0 + d ∧ tnP k x E ∧ ¬ tnP k x (E + 1)
  | 0, g0, h0, h1 => absurd h0 (by simpa using h1)
  | d + 1, g0, h0, h1 => by
    by_cases h : tnP k x (g0 + 1)
    · obtain ⟨E, e1, e2, e3, e4⟩ := tn_ex d (g0 + 1) h (by rw [show g0 + 1 + (d : Int) = g0 + ((d + 1 : Nat) : Int) by omega]; exact h1)
      exact ⟨E, by omega, by omega, e3, e4⟩
    · exact ⟨g0, Int.le_refl _, by omega, h0, h⟩
theorem tn_top {k : Nat} {x : Int} (hk : k < 2 ^ 256) (hx : x ≤ 17000) : ¬ tnP k x 6000 := by
  unfold tnP zE oE
  rw [show ((-6000 : Int)).toNat = 0 by decide, Nat.pow_zero, Nat.mul_one, show ((6000 : Int)).toNat = 6000 by decide]
  have h1 : (2 : Nat) ^ 18000 ≤ 10 ^ 6000 := by decide +kernel
  obtain ⟨m', hm'⟩ : ∃ m' : Nat, m' = 18000 := ⟨_, rfl⟩
  rw [← hm'] at h1
  generalize (10 : Nat) ^ 6000 = T at *
  obtain ⟨m, hm⟩ : ∃ m : Nat, m = 17000 := ⟨_, rfl⟩
  have h2 : k * 2 ^ x.toNat < 2 ^ 256 * 2 ^ m := by
    have a1 : k * 2 ^ x.toNat < 2 ^ 256 * 2 ^ x.toNat := Nat.mul_lt_mul_of_pos_right hk (Nat.two_pow_pos _)
    have a2 : 2 ^ 256 * 2 ^ x.toNat ≤ 2 ^ 256 * 2 ^ m := Nat.mul_le_mul_left _ (Nat.pow_le_pow_right (by decide) (by omega))
    exact Nat.lt_of_lt_of_le a1 a2
  rw [← Nat.pow_add] at h2
  have h3 : (2 : Nat) ^ (256 + m) ≤ 2 ^ m' := Nat.pow_le_pow_right (by decide) (by omega)
  have h4 : 1 * T ≤ 2 ^ (-x).toNat * T := Nat.mul_le_mul_right _ (Nat.two_pow_pos _)
  generalize (2 : Nat) ^ (256 + m) = Y at *
  generalize (2 : Nat) ^ m' = Y' at *
  rw [Nat.mul_assoc 4, Nat.mul_assoc 4]
  generalize 2 ^ (-x).toNat * T = Z1 at *
  generalize k * 2 ^ x.toNat = Z2 at *
  omega
attribute [local irreducible] W4 Nz Nt NT
end Go.Proofs.YtplocajjfoiklaaGreatDoor

namespace Go.Proofs.YtplocajjfoiklaaGreatDoor
open Go.RowKit

theorem Rch.grown {g : Nat} {vn vb va vw tv : Value} {c : Bool} {w w' : World} (hr : Rch g vn vb va vw c w) (hg : w.grownBy w' tv.ownBlock) (hf : some g ≠ tv.ownBlock) : Rch g vn vb va vw c w' :=
  ⟨(hg.block g hr.lt hf).trans hr.blk, hr.s0, hr.s1, hr.s2, hr.s3⟩
theorem NT.grown {K V Bs : Nat} {v tv : Value} {l : List UInt8} {w w' : World} (h : NT K V v w) (ho : w.ownsRow Bs 5 1 tv l.length (Lib.byteCells l)) (hl : tv = .slice none 0 0 ∨ 0 < l.length) (hg : w.grownBy w' tv.ownBlock) : NT K V v w' := by
  obtain ⟨b, k, cap, z, h1, h2, ⟨n1, n2, n3, n4, n5⟩, h4, h5⟩ := h
  refine ⟨b, k, cap, z, h1, h2, ⟨n1, n2, n3, n4, ?_⟩, h4, h5⟩
  rcases n5 with n5 | ⟨b', off, e, hb, hc⟩
  · exact Or.inl n5
  · cases e
    refine Or.inr ⟨b, 0, rfl, Nat.lt_of_lt_of_le hb hg.size, fun i hi => ?_⟩
    have hne : some b ≠ tv.ownBlock := by
      rcases hl with rfl | hl
      · intro h; cases h
      · obtain ⟨g', cap', rfl, _, _⟩ := ho.form hl
        intro h
        have : b = g' := Option.some.inj h
        subst this
        have h6 := hc 0 (by omega)
        rw [Nat.add_zero, ho.cellAt 0 (by omega)] at h6
        simp [Lib.byteCells, hl] at h6
    exact (World.cell?_of_block (w := w) (a := ⟨b, 0 + i, none⟩) (hg.block b hb hne)).trans (hc i hi)
attribute [local irreducible] W4 Nz Nt NT
end Go.Proofs.YtplocajjfoiklaaGreatDoor

namespace Go.Proofs.YtplocajjfoiklaaGreatDoor
open Go.RowKit

/-- how many quarters below a number are read as it -/
def lwN (n x : Int) (k : Nat) : Nat := if nbB n x k then 1 else 2
def evK (k : Nat) : Bool := decide (k % 2 = 0)
/-- the first digit's place, and how many digits behind it -/
structure Shd (n x : Int) (k : Nat) (E : Int) (K : Nat) : Prop where
  t0 : tnP k x E
  t1 : ¬ tnP k x (E + 1)
  st : stK (evK k) (4 * k * oE x E) (lwN n x k * oE x E) (2 * oE x E) (zE x E) K = true
  mn : ∀ j, j < K → stK (evK k) (4 * k * oE x E) (lwN n x k * oE x E) (2 * oE x E) (zE x E) j = false
theorem bin_x {n x : Int} (hb : binN n) (h1 : leastN n ≤ x) (h2 : x ≤ mostN n) : -16990 ≤ x ∧ x ≤ 16990 := by
  have h3 : -16990 ≤ leastN n ∧ mostN n ≤ 16990 := by
    rcases bin_cases hb with rfl | rfl | rfl | rfl | rfl | rfl <;> decide
  omega
theorem gs_in {k : Nat} {x : Int} (hk : k < 2 ^ 256) (hk0 : k ≠ 0) (hx : -16990 ≤ x ∧ x ≤ 16990) : tnP k x (gsP k x) ∧ -6000 ≤ gsP k x ∧ gsP k x < 6000 := by
  have hb : bl k ≤ 256 := bl_le.2 hk
  obtain ⟨b1, b2, b3⟩ := bl_bd hk0
  have e : ((bl k - 1 : Nat) : Int) = (bl k : Int) - 1 := by omega
  have := guess_ok (c := k) (L := bl k - 1) (x := x) b1 (by omega)
  rw [e] at this
  refine ⟨this, ?_⟩
  unfold gsP
  by_cases h0 : 0 ≤ (bl k : Int) - 1 + x
  · rw [Int.tdiv_eq_ediv_of_nonneg (by omega)]; omega
  · rw [show ((bl k : Int) - 1 + x) * 30103 = -(-((bl k : Int) - 1 + x) * 30103) by omega, Int.neg_tdiv, Int.tdiv_eq_ediv_of_nonneg (by omega)]; omega
theorem Shd.ex {n x : Int} {k : Nat} (hk : k < 2 ^ 256) (hk0 : k ≠ 0) (hx : -16990 ≤ x ∧ x ≤ 16990) : ∃ E K, Shd n x k E K := by
  obtain ⟨g1, g2, g3⟩ := gs_in hk hk0 hx
  obtain ⟨E, e1, e2, e3, e4⟩ := tn_ex (6000 - gsP k x).toNat (gsP k x) g1 (by rw [show gsP k x + ((6000 - gsP k x).toNat : Int) = 6000 by omega]; exact tn_top hk (by omega))
  have hl : 0 < lwN n x k * oE x E := Nat.mul_pos (by unfold lwN; split <;> decide) (oE_pos _ _)
  obtain ⟨K, h1, h2⟩ := st_ex (c := evK k) (R := 4 * k * oE x E) (u := 2 * oE x E) (zE_pos x E) hl
  exact ⟨E, K, e3, e4, h1, h2⟩
end Go.Proofs.YtplocajjfoiklaaGreatDoor

namespace Go.Proofs.YtplocajjfoiklaaGreatDoor
open Go.RowKit

theorem itoa_short {e : Int} (he : -100000 ≤ e ∧ e ≤ 100000) : (Lib.itoa e).length ≤ 100 := by
  have := Lib.itoa_length_le e (by omega) (by omega)
  omega
attribute [local irreducible] W4
section
variable (n : Int) (Bp : Nat) (c : Int) (s g : Bool) (x : Int) (k : Nat) (w : World) (hT : Tab w) (hT10 : Tb10 w)
include hT
include hT10
end
end Go.Proofs.YtplocajjfoiklaaGreatDoor

namespace Go.Proofs.YtplocajjfoiklaaGreatDoor
open Go.RowKit

/-- an exponent with its sign ahead -/
def sgE (e : Int) : List UInt8 := (if 0 ≤ e then [43] else []) ++ Lib.itoa e
set_option maxHeartbeats 2000000 in
theorem signed_v (e : Int) (w : World) (hT10 : Tb10 w) (he : -100000 ≤ e ∧ e ≤ 100000) : Calls Tryz.prog 57 #[.int .i64 e] w fun r w' => r = .returned (.string (B (sgE e))) ∧ Below w.heap.size w w' := by
  have hi := itoa_short he
  have c53 := fun W (h : Tb10 W) => itoa_any e W (by omega) h
  have htl := B_toList
  unfold sgE
  have p0 : (⟨#[43]⟩ : ByteArray) ++ B (Lib.itoa e) = B ([43] ++ Lib.itoa e) := B_app [43] _
  obtain ⟨il, hil⟩ : ∃ il, (Lib.itoa e).length = il := ⟨_, rfl⟩
  have z2 : (B (Lib.itoa e)).size = il := by rw [B_size]; exact hil
  have hil2 : il ≤ 100 := by omega
  clear hi hil
  generalize Lib.itoa e = I at *
  by_cases h : 0 ≤ e
  · rw [if_pos h]
    generalize hL1 : [43] ++ I = L1 at *
    clear hL1
    go_enter Tryz.func57, Tryz.ntmps57
    go_wp2_with (go_at_call 31; refine (c53 _ hT10).mono ?_; rintro r w3 ⟨rfl, hb3⟩)
    go_ret
    exact ⟨rfl, hb3⟩
  · rw [if_neg h, List.nil_append]
    have h' : e < 0 := by omega
    go_enter Tryz.func57, Tryz.ntmps57
    go_wp2_with (go_at_call 31; refine (c53 _ hT10).mono ?_; rintro r w3 ⟨rfl, hb3⟩)
    go_ret
    exact ⟨rfl, hb3⟩
attribute [local irreducible] W4
set_option maxHeartbeats 2000000 in
theorem hun_z (x : Int) (w : World) : Calls Tryz.prog 23 #[A4 0, .int .i64 x] w fun r w' => r = .returned (.string (B hbZ)) ∧ Below w.heap.size w w' := by
  have c55 := fun W => len4' 0 W
  rw [lenL_bl (A := 0) (by decide), show bl 0 = 0 from bl_zero.2 rfl] at c55
  have hz : B hbZ = ⟨#[48, 120, 48, 112, 43, 48]⟩ := rfl
  rw [hz]
  go_enter Tryz.func23, Tryz.ntmps23
  go_wp2_with (go_at_call 55; refine (c55 _).mono ?_; rintro r w1 ⟨rfl, hb1⟩; obtain ⟨hc1, hf1⟩ := bcell hb1; have hz1_0 : w.heap.size < w1.heap.size := lt_below hb1 ltg; have hl1_0 := Nat.le_of_lt hz1_0; have hA1 := bnext (w0 := w) bgo hb1; have hs1 := hA1.size; clear hb1)
  go_ret
  exact ⟨rfl, bgo⟩
section
variable {k : Nat} (x : Int) (w : World) (hT : TbZ w) (hT10 : Tb10 w) (hk0 : k ≠ 0) (hk : bl k ≤ 241) (hx : -40000 ≤ x ∧ x ≤ 40000)
include hT hT10 hk0 hk hx
set_option maxHeartbeats 4000000 in
theorem hun_n (hD : hbD k = []) : Calls Tryz.prog 23 #[A4 k, .int .i64 x] w fun r w' => r = .returned (.string (B (hbT k x))) ∧ Below w.heap.size w w' := by
  have hA : k < 2 ^ 256 := bl_le.1 (by omega)
  have hn1 : bl k ≠ 0 := fun e => hk0 (bl_zero.1 e)
  have c55 := fun W => len4' k W
  rw [lenL_bl hA] at c55
  have c56 := fun W h => bh_v hk0 hk W h
  rw [hD, B_nil] at c56
  have HT : Hid (hbT k x = ([48, 120, 49] ++ [112]) ++ sgE (bl k - 1 + x)) := by
    show _ = _
    unfold hbT sgE
    rw [if_pos hD, show x + bl k - 1 = (bl k : Int) - 1 + x by omega]
    simp
  obtain ⟨n, hn⟩ : ∃ n, bl k = n := ⟨_, rfl⟩
  rw [hn] at hk hn1 c55 HT
  have hnb : 1 ≤ (n : Int) ∧ (n : Int) ≤ 241 := by omega
  have hne : ((n : Int) == 0) = false := by rw [beq_eq_false_iff_ne]; omega
  have c57 := fun W h => signed_v ((n : Int) - 1 + x) W h (by omega)
  have zs : (B (sgE ((n : Int) - 1 + x))).size ≤ 200 := by
    rw [B_size]
    unfold sgE
    have hi := itoa_short (e := (n : Int) - 1 + x) (by omega)
    rw [List.length_append]
    split <;> simp <;> omega
  generalize hs : sgE ((n : Int) - 1 + x) = sg at *
  have p0 : (⟨#[48, 120, 49]⟩ : ByteArray) ++ (⟨#[112]⟩ : ByteArray) = B ([48, 120, 49] ++ [112]) := B_app [48, 120, 49] [112]
  have z0 : (B ([48, 120, 49] ++ [112])).size = 4 := rfl
  have p1 : B ([48, 120, 49] ++ [112]) ++ B sg = B (([48, 120, 49] ++ [112]) ++ sg) := B_app _ _
  generalize hL : ([48, 120, 49] ++ [112]) ++ sg = L at *
  generalize hL0 : ([48, 120, 49] ++ [112] : List UInt8) = L0 at *
  obtain ⟨zn, hzn⟩ : ∃ zn, (B sg).size = zn := ⟨_, rfl⟩
  rw [hzn] at zs
  clear hL hL0 hs hD hn hk0 hk hA
  go_enter Tryz.func23, Tryz.ntmps23
  go_wp2_with (first
    | (have hh := hA2; go_at_call 55; refine (c55 _).mono ?_; rintro r w3 ⟨rfl, hb3⟩; obtain ⟨hc3, hf3⟩ := bcell hb3; have hz3_0 : w.heap.size < w3.heap.size := lt_below hb3 ltg; have hl3_0 := Nat.le_of_lt hz3_0; have hA3 := bnext (w0 := w) bgo hb3; have hs3 := hA3.size; clear hb3)
    | (go_at_call 55; refine (c55 _).mono ?_; rintro r w1 ⟨rfl, hb1⟩; obtain ⟨hc1, hf1⟩ := bcell hb1; have hz1_0 : w.heap.size < w1.heap.size := lt_below hb1 ltg; have hl1_0 := Nat.le_of_lt hz1_0; have hA1 := bnext (w0 := w) bgo hb1; have hs1 := hA1.size; clear hb1)
    | (go_at_call 56; refine (c56 _ (hT.next hA1)).mono ?_; rintro r w2 ⟨rfl, hb2⟩; obtain ⟨hc2, hf2⟩ := bcell hb2; have hz2_0 : w.heap.size < w2.heap.size := lt_below hb2 ltg; have hl2_0 := Nat.le_of_lt hz2_0; have hA2 := bnext (w0 := w) bgo hb2; have hs2 := hA2.size; clear hb2)
    | (go_at_call 57; refine (c57 _ (hT10.next hA3)).mono ?_; rintro r w4 ⟨rfl, hb4⟩; obtain ⟨hc4, hf4⟩ := bcell hb4; have hz4_0 : w.heap.size < w4.heap.size := lt_below hb4 ltg; have hl4_0 := Nat.le_of_lt hz4_0; have hA4 := bnext (w0 := w) bgo hb4; have hs4 := hA4.size; clear hb4))
  go_ret
  exact ⟨by rw [HT.out]; rfl, bgo⟩
set_option maxHeartbeats 4000000 in
theorem hun_d (hD : hbD k ≠ []) : Calls Tryz.prog 23 #[A4 k, .int .i64 x] w fun r w' => r = .returned (.string (B (hbT k x))) ∧ Below w.heap.size w w' := by
  have hA : k < 2 ^ 256 := bl_le.1 (by omega)
  have hn1 : bl k ≠ 0 := fun e => hk0 (bl_zero.1 e)
  have c55 := fun W => len4' k W
  rw [lenL_bl hA] at c55
  have c56 := fun W h => bh_v hk0 hk W h
  have hdl : (hbD k).length ≤ 60 := by
    have := (hbD_facts k).2.1
    unfold hbC at this
    omega
  have HT : Hid (hbT k x = (([48, 120, 49] ++ ([46] ++ hbD k)) ++ [112]) ++ sgE (bl k - 1 + x)) := by
    show _ = _
    unfold hbT sgE
    rw [if_neg hD, show x + bl k - 1 = (bl k : Int) - 1 + x by omega]
    simp
  obtain ⟨n, hn⟩ : ∃ n, bl k = n := ⟨_, rfl⟩
  rw [hn] at hk hn1 c55 HT
  have hnb : 1 ≤ (n : Int) ∧ (n : Int) ≤ 241 := by omega
  have hne : ((n : Int) == 0) = false := by rw [beq_eq_false_iff_ne]; omega
  have c57 := fun W h => signed_v ((n : Int) - 1 + x) W h (by omega)
  have zs : (B (sgE ((n : Int) - 1 + x))).size ≤ 200 := by
    rw [B_size]
    unfold sgE
    have hi := itoa_short (e := (n : Int) - 1 + x) (by omega)
    rw [List.length_append]
    split <;> simp <;> omega
  generalize hs : sgE ((n : Int) - 1 + x) = sg at *
  have htl := B_toList
  generalize hDD : hbD k = D at *
  have hemp : D.isEmpty = false := by cases D with | nil => exact absurd rfl hD | cons y ys => rfl
  have hzd : (B D).size = D.length := B_size D
  have p0 : (⟨#[46]⟩ : ByteArray) ++ B D = B ([46] ++ D) := B_app [46] _
  have z0 : (B ([46] ++ D)).size = D.length + 1 := by rw [B_size, List.length_append]; simp; omega
  have p1 : (⟨#[48, 120, 49]⟩ : ByteArray) ++ B ([46] ++ D) = B ([48, 120, 49] ++ ([46] ++ D)) := B_app [48, 120, 49] _
  have z1 : (B ([48, 120, 49] ++ ([46] ++ D))).size = D.length + 4 := by rw [B_size, List.length_append, List.length_append]; simp; omega
  have p2 : B ([48, 120, 49] ++ ([46] ++ D)) ++ (⟨#[112]⟩ : ByteArray) = B (([48, 120, 49] ++ ([46] ++ D)) ++ [112]) := B_app _ [112]
  have z2 : (B (([48, 120, 49] ++ ([46] ++ D)) ++ [112])).size = D.length + 5 := by rw [B_size, List.length_append, List.length_append, List.length_append]; simp; omega
  have p3 : B (([48, 120, 49] ++ ([46] ++ D)) ++ [112]) ++ B sg = B ((([48, 120, 49] ++ ([46] ++ D)) ++ [112]) ++ sg) := B_app _ _
  obtain ⟨zn, hzn⟩ : ∃ zn, (B sg).size = zn := ⟨_, rfl⟩
  rw [hzn] at zs
  obtain ⟨dl, hdn⟩ : ∃ dl, D.length = dl := ⟨_, rfl⟩
  rw [hdn] at hdl hzd z0 z1 z2
  generalize hL3 : (([48, 120, 49] ++ ([46] ++ D)) ++ [112]) ++ sg = L3 at *
  generalize hL2 : ([48, 120, 49] ++ ([46] ++ D)) ++ [112] = L2 at *
  generalize hL1 : [48, 120, 49] ++ ([46] ++ D) = L1 at *
  generalize hL0 : [46] ++ D = L0 at *
  clear hL0 hL1 hL2 hL3 hs hD hn hk0 hk hA hDD hdn
  go_enter Tryz.func23, Tryz.ntmps23
  go_wp2_with (first
    | (have hh := hA2; go_at_call 55; refine (c55 _).mono ?_; rintro r w3 ⟨rfl, hb3⟩; obtain ⟨hc3, hf3⟩ := bcell hb3; have hz3_0 : w.heap.size < w3.heap.size := lt_below hb3 ltg; have hl3_0 := Nat.le_of_lt hz3_0; have hA3 := bnext (w0 := w) bgo hb3; have hs3 := hA3.size; clear hb3)
    | (go_at_call 55; refine (c55 _).mono ?_; rintro r w1 ⟨rfl, hb1⟩; obtain ⟨hc1, hf1⟩ := bcell hb1; have hz1_0 : w.heap.size < w1.heap.size := lt_below hb1 ltg; have hl1_0 := Nat.le_of_lt hz1_0; have hA1 := bnext (w0 := w) bgo hb1; have hs1 := hA1.size; clear hb1)
    | (go_at_call 56; refine (c56 _ (hT.next hA1)).mono ?_; rintro r w2 ⟨rfl, hb2⟩; obtain ⟨hc2, hf2⟩ := bcell hb2; have hz2_0 : w.heap.size < w2.heap.size := lt_below hb2 ltg; have hl2_0 := Nat.le_of_lt hz2_0; have hA2 := bnext (w0 := w) bgo hb2; have hs2 := hA2.size; clear hb2)
    | (go_at_call 57; refine (c57 _ (hT10.next hA3)).mono ?_; rintro r w4 ⟨rfl, hb4⟩; obtain ⟨hc4, hf4⟩ := bcell hb4; have hz4_0 : w.heap.size < w4.heap.size := lt_below hb4 ltg; have hl4_0 := Nat.le_of_lt hz4_0; have hA4 := bnext (w0 := w) bgo hb4; have hs4 := hA4.size; clear hb4))
  go_ret
  exact ⟨by rw [HT.out]; rfl, bgo⟩
end
/-- the text of a finite number, but for its sign -/
def hwT (k : Nat) (x : Int) : List UInt8 := if k = 0 then hbZ else hbT k x
theorem hun_v {k : Nat} (x : Int) (w : World) (hT : TbZ w) (hT10 : Tb10 w) (hk : bl k ≤ 241) (hx : -40000 ≤ x ∧ x ≤ 40000) : Calls Tryz.prog 23 #[A4 k, .int .i64 x] w fun r w' => r = .returned (.string (B (hwT k x))) ∧ Below w.heap.size w w' := by
  unfold hwT
  by_cases h0 : k = 0
  · subst h0
    rw [if_pos rfl]
    exact hun_z x w
  · rw [if_neg h0]
    by_cases hD : hbD k = []
    · exact hun_n x w hT hT10 h0 hk hx hD
    · exact hun_d x w hT hT10 h0 hk hx hD
end Go.Proofs.YtplocajjfoiklaaGreatDoor

namespace Go.Proofs.YtplocajjfoiklaaGreatDoor
open Go.RowKit

theorem it_exp (e : Int) (h : -1000000000 ≤ e ∧ e ≤ 1000000000) : isd (sgR (Lib.itoa e)) = true ∧ exS (Lib.itoa e) = e := by
  unfold Lib.itoa
  split
  · rename_i h1
    have e1 : gsgB (45 :: Lib.decDigits e.natAbs) = true := rfl
    have e2 : sgR (45 :: Lib.decDigits e.natAbs) = Lib.decDigits e.natAbs := rfl
    unfold exS
    rw [e1, e2, if_pos rfl]
    refine ⟨dec_isd _, ?_⟩
    unfold vc; rw [dec_nv]; omega
  · rename_i h1
    obtain ⟨e1, e2⟩ := sg_all (dec_dg e.toNat)
    unfold exS
    rw [e1, e2]
    refine ⟨dec_isd _, ?_⟩
    rw [if_neg (by decide)]
    unfold vc; rw [dec_nv]; omega
theorem sml_it (e : Int) : sml (Lib.itoa e) = Lib.itoa e := by
  unfold Lib.itoa
  split
  · rw [sml_cons, sml_dig (dec_dg _)]
    rfl
  · exact sml_dig (dec_dg _)
theorem app_tw {W : List UInt8} {y : UInt8} {t : List UInt8} (hW : W.all hxB = true) (hy : hxB y = false) : (W ++ y :: t).takeWhile hxB = W ∧ (W ++ y :: t).dropWhile hxB = y :: t := by
  have h := fun a ha => List.all_eq_true.1 hW a ha
  refine ⟨?_, ?_⟩
  · rw [List.takeWhile_append_of_pos h, List.takeWhile_cons_of_neg (by rw [hy]; decide), List.append_nil]
  · rw [List.dropWhile_append_of_pos h, List.dropWhile_cons_of_neg (by rw [hy]; decide)]
theorem hxR_p {W F z : List UInt8} (hW : W.all hxB = true) (hF : F.all hxB = true) (h0 : W.length + F.length ≠ 0) (hz : isd (sgR z) = true) :
    hxR (W ++ 46 :: (F ++ 112 :: z)) = some (hxV W * 16 ^ F.length + hxV F, min (max (exS z) (-1000000000)) 1000000000 - 4 * (F.length : Int)) := by
  obtain ⟨a1, a2⟩ := app_tw (t := F ++ 112 :: z) hW (show hxB 46 = false from rfl)
  obtain ⟨b1, b2⟩ := app_tw (t := z) hF (show hxB 112 = false from rfl)
  unfold hxR
  rw [a1, a2, show hpF (46 :: (F ++ 112 :: z)) = F from b1, show hpR (46 :: (F ++ 112 :: z)) = 112 :: z from b2, if_neg h0]
  exact if_pos ⟨rfl, hz⟩
theorem hxR_n {W z : List UInt8} (hW : W.all hxB = true) (h0 : W.length ≠ 0) (hz : isd (sgR z) = true) :
    hxR (W ++ 112 :: z) = some (hxV W, min (max (exS z) (-1000000000)) 1000000000) := by
  obtain ⟨a1, a2⟩ := app_tw (t := z) hW (show hxB 112 = false from rfl)
  unfold hxR
  rw [a1, a2, show hpF (112 :: z) = [] from rfl, show hpR (112 :: z) = 112 :: z from rfl, if_neg (by simpa using h0)]
  refine (if_pos ⟨rfl, hz⟩).trans ?_
  show some (hxV W * 16 ^ 0 + 0, _ - 4 * ((0 : Nat) : Int)) = _
  rw [Nat.pow_zero, Nat.mul_one, Nat.add_zero, show ∀ x : Int, x - 4 * ((0 : Nat) : Int) = x from fun x => by omega]
/-- what is read of a text that opens with 0x -/
theorem xread_v {n d : Int} {l a : List UInt8} {s : Bool} {N : Nat} {X : Int} (hb : binN n) (hd : knB d) (hl : l.length ≤ 4000) (hg : gsgB (sml l) = s) (ha : sgR (sml l) = 48 :: 120 :: a) (hx : hxR a = some (N, X)) (w : World) (hT : Tab w) :
    Calls Tryz.prog 11 #[.int .i64 n, .int .i64 d, .string (B l)] w fun r w' => r = .returned (.tuple #[A4 (rdV n d s N 1 X), .int .i64 (rdF n d s N 1 X), .int .i64 0]) ∧ Below w.heap.size w w' := by
  have := xread_x w hT hb hd hl a ha
  rw [hx, hg] at this
  exact this
theorem sgL_app (s : Bool) (t : List UInt8) : gsgB (sml ((if s then [45] else []) ++ 48 :: 120 :: t)) = s ∧ sgR (sml ((if s then [45] else []) ++ 48 :: 120 :: t)) = 48 :: 120 :: sml t := by
  rw [gsgB_sml, sgR_sml]
  obtain ⟨h1, h2⟩ := sig_app s 48 (120 :: t) (by decide)
  rw [h1, h2]
  exact ⟨rfl, rfl⟩
end Go.Proofs.YtplocajjfoiklaaGreatDoor

namespace Go.Proofs.YtplocajjfoiklaaGreatDoor
open Go.RowKit

section
variable {H : Type} {enc : TypeId × Value → H} {W : World} {base : Nat} {sp : Nat → Bool} {held : Bool}
theorem u59 : ∃ a b c d, Tryz.prog.underlying 108 = some (.struct #[a, b, c, d]) ∧ a.offset = 0 ∧ b.offset = 1 ∧ c.offset = 2 ∧ d.offset = 3 ∧ a.type = 9 ∧ b.type = 3 ∧ c.type = 3 ∧ d.type = 3 :=
  ⟨_, _, _, _, Tryz.underlying108, rfl, rfl, rfl, rfl, rfl, rfl, rfl, rfl⟩
theorem c9 : Tryz.prog.cellsOf 9 = 1 := by kernel_rfl
theorem c3 : Tryz.prog.cellsOf 3 = 1 := by kernel_rfl
theorem c59 : Tryz.prog.cellsOf 108 = 4 := by kernel_rfl
theorem c60 : Tryz.prog.cellsOf 109 = 48 := by kernel_rfl
theorem u60 : Tryz.prog.underlying 109 = some (.array 12 108) := by kernel_rfl
theorem row_cells {fuel : Nat} {cs : List Value} {nm : List UInt8} {a b c : Int} {p : DataW H × List MemPlace} (hp : p.1 = .agg [.lit (.string nm), .lit (.int .i64 a), .lit (.int .i64 b), .lit (.int .i64 c)])
    (h : DataW.trod enc Tryz.prog W base sp held fuel 108 cs = some p) : cs = [.string ⟨nm.toArray⟩, .int .i64 a, .int .i64 b, .int .i64 c] := by
  obtain ⟨f0, f1, f2, f3, hu, o0, o1, o2, o3, t0, t1, t2, t3⟩ := u59
  obtain ⟨y0, y1, y2, y3, n, rfl, hl, h0, h1, h2, h3⟩ := Joins.trod_struct4 hu h
  rw [o0, t0, c9] at h0
  rw [o1, t1, c3] at h1
  rw [o2, t2, c3] at h2
  rw [o3, t3, c3] at h3
  obtain ⟨s, hs, rfl, _⟩ := DataW.trod_string Tryz.underlying9 h0
  obtain ⟨z1, hz1, rfl, _⟩ := DataW.trod_int Tryz.underlying3 h1
  obtain ⟨z2, hz2, rfl, _⟩ := DataW.trod_int Tryz.underlying3 h2
  obtain ⟨z3, hz3, rfl, _⟩ := DataW.trod_int Tryz.underlying3 h3
  simp only [DataW.agg.injEq, List.cons.injEq, DataW.lit.injEq, Lit.string.injEq, Lit.int.injEq, true_and, and_true] at hp
  obtain ⟨rfl, rfl, rfl, rfl⟩ := hp
  rw [c59] at hl
  match cs, hl with
  | [v0, v1, v2, v3], _ =>
    simp at hs hz1 hz2 hz3
    subst hs hz1 hz2 hz3
    rfl
theorem row_at {cs : List Value} {i : Nat} {v0 v1 v2 v3 : Value} (h : (cs.drop (i * 4)).take 4 = [v0, v1, v2, v3]) : cs[i * 4]? = some v0 ∧ cs[i * 4 + 1]? = some v1 ∧ cs[i * 4 + 2]? = some v2 ∧ cs[i * 4 + 3]? = some v3 := by
  have g : ∀ k, k < 4 → cs[i * 4 + k]? = [v0, v1, v2, v3][k]? := fun k hk => by
    rw [← h, List.getElem?_take_of_lt hk, List.getElem?_drop]
  exact ⟨g 0 (by decide), g 1 (by decide), g 2 (by decide), g 3 (by decide)⟩
theorem tab_of_trod {fuel : Nat} {cs : List Value} {p : List MemPlace} (h : DataW.trod enc Tryz.prog W base sp held fuel 109 cs = some (Rows.laid_caliper_desc_rows, p)) :
    ∀ i k, i < 12 → k < 4 → cs[i * 4 + k]? = some (rowV i k) := by
  cases fuel with
  | zero => simp [DataW.trod] at h
  | succ fuel =>
    simp only [DataW.trod, u60, c59, c60] at h
    split at h
    · rename_i hl
      obtain ⟨xs, hm, hx⟩ := Option.map_eq_some_iff.1 h
      have hxs := congrArg Prod.fst hx
      simp only [Rows.laid_caliper_desc_rows, DataW.agg.injEq] at hxs
      intro i k hi hk
      obtain ⟨b, hb, hf⟩ := Lib.mapM_at hm i i (by simp [hi])
      have hd : (xs.map (·.1))[i]? = some b.1 := by simp [hb]
      rw [hxs] at hd
      have key : ∀ (nm : List UInt8) (x y z : Int), b.1 = .agg [.lit (.string nm), .lit (.int .i64 x), .lit (.int .i64 y), .lit (.int .i64 z)] → cs[i * 4]? = some (.string ⟨nm.toArray⟩) ∧ cs[i * 4 + 1]? = some (.int .i64 x) ∧ cs[i * 4 + 2]? = some (.int .i64 y) ∧ cs[i * 4 + 3]? = some (.int .i64 z) :=
        fun nm x y z e => row_at (row_cells e hf)
      have hk' : k = 0 ∨ k = 1 ∨ k = 2 ∨ k = 3 := by omega
      have hi' : i = 0 ∨ i = 1 ∨ i = 2 ∨ i = 3 ∨ i = 4 ∨ i = 5 ∨ i = 6 ∨ i = 7 ∨ i = 8 ∨ i = 9 ∨ i = 10 ∨ i = 11 := by omega
      rcases hi' with rfl | rfl | rfl | rfl | rfl | rfl | rfl | rfl | rfl | rfl | rfl | rfl
      all_goals
        obtain ⟨q0, q1, q2, q3⟩ := key _ _ _ _ (Option.some.inj hd).symm
        rcases hk' with rfl | rfl | rfl | rfl
        · exact q0
        · exact q1
        · exact q2
        · exact q3
    · cases h
end
theorem tab_of_laid {W : World} {rest : List (String × DataW Unit)} (h : laidMet Tryz.prog (("caliper/desc.rows", Rows.laid_caliper_desc_rows) :: rest) W) : Tab W := by
  obtain ⟨ps, ⟨g', t', cs, fuel, p, q, hg', ht', hvar, hd, _, _⟩, _⟩ := h
  have hg : Tryz.prog.globalNamed "caliper/desc.rows" = some 0 := by kernel_rfl
  have hty : (Tryz.prog.globals[0]?).map (·.type) = some 109 := by kernel_rfl
  obtain rfl := Option.some.inj (hg.symm.trans hg')
  obtain rfl := Option.some.inj (hty.symm.trans ht')
  have hc := tab_of_trod hd
  have hcell : ∀ i k, i < 12 → k < 4 → W.cell? ⟨0, i * 4 + k, none⟩ = some (rowV i k) := fun i k hi hk => by
    have := World.var?_cell hg hvar (i * 4 + k)
    rw [this, ← hc i k hi hk]
    simp
  refine ⟨?_, hcell⟩
  have h0 := hcell 0 0 (by decide) (by decide)
  by_cases hz : 0 < W.heap.size
  · exact hz
  · have : W.heap[0]? = none := Array.getElem?_eq_none (by omega)
    simp [World.cell?, this] at h0
end Go.Proofs.YtplocajjfoiklaaGreatDoor

namespace Go.Proofs.YtplocajjfoiklaaGreatDoor
open Go.RowKit

theorem pl_isD {f : Nat} {l m : Int} (s g : Bool) (A : Nat) (hf : 2 ≤ f) : isD f l m ⟨3, s, g, 0, plV f g A⟩ := by
  refine Or.inr (Or.inr ⟨rfl, rfl, ?_, ?_⟩)
  · show plV f g A < 2 ^ (f - 1)
    have h : plA f A < 2 ^ (f - 1) := by
      unfold plA
      split
      · exact Nat.two_pow_pos _
      · rename_i h
        exact bl_le.1 (by omega)
    unfold plV
    split
    · exact Nat.one_lt_two_pow (by omega)
    · exact h
  · show plV f g A ≠ 0 ∨ g = false
    cases g
    · exact Or.inr rfl
    · left
      unfold plV
      split
      · decide
      · rename_i h
        intro h2
        exact h ⟨rfl, h2⟩
theorem fN_ge {n : Int} (hb : binN n) : 2 ≤ fN n := by
  rcases bin_cases hb with rfl | rfl | rfl | rfl | rfl | rfl <;> decide
end Go.Proofs.YtplocajjfoiklaaGreatDoor

namespace Go.Proofs.YtplocajjfoiklaaGreatDoor
open Go.RowKit

attribute [local irreducible] W4
section
variable (n d : Int) (l : List UInt8) (q : Prt) (nm : ByteArray) (wd : Int) (f e : Nat) (lo m : Int) (w : World)
set_option maxHeartbeats 2000000 in
theorem read_k (hT : Tab w) (V : Nat) (F E : Int) (c28 : ∀ W, Tab W → Calls Tryz.prog 47 #[.int .i64 n, .int .i64 d] W fun r w' => r = .returned (.tuple #[DI n nm wd f e lo m, .int .i64 0]) ∧ Below W.heap.size W w')
    (c29 : ∀ W, Calls Tryz.prog 36 #[.string (B l)] W fun r w' => r = .returned (.tuple #[PV q.cls q.sg q.sn q.dig q.ex, .int .i64 0]) ∧ Below W.heap.size W w')
    (c12 : ∀ W, Below w.heap.size w W → Calls Tryz.prog 37 #[.int .i64 n, .int .i64 d, PV q.cls q.sg q.sn q.dig q.ex] W fun r w' => r = .returned (.tuple #[A4 V, .int .i64 F, .int .i64 E]) ∧ Below W.heap.size W w') :
    Calls Tryz.prog 20 #[.int .i64 n, .int .i64 d, .string (B l)] w fun r w' => r = .returned (.tuple #[A4 V, .int .i64 F, .int .i64 E]) ∧ Below w.heap.size w w' := by
  have hsm := cell_set_map
  unfold PV at *
  go_enter Tryz.func20, Tryz.ntmps20
  go_wp2_with (first
    | (go_at_call 47; refine (c28 _ (hT.go bgo)).mono ?_; rintro r w1 ⟨rfl, hb1⟩; obtain ⟨hc1, hf1⟩ := bcell hb1; have hz1_0 : w.heap.size < w1.heap.size := lt_below hb1 ltg; have hl1_0 := Nat.le_of_lt hz1_0; have hA1 := bnext (w0 := w) bgo hb1; have hs1 := hA1.size; clear hb1)
    | (go_at_call 36; refine (c29 _).mono ?_; rintro r w2 ⟨rfl, hb2⟩; obtain ⟨hc2, hf2⟩ := bcell hb2; have hz2_0 : w.heap.size < w2.heap.size := lt_below hb2 ltg; have hl2_0 := Nat.le_of_lt hz2_0; have hz2_1 : w1.heap.size < w2.heap.size := lt_below hb2 ltg; have hl2_1 := Nat.le_of_lt hz2_1; have hA2 := bnext (w0 := w) bgo hb2; have hs2 := hA2.size; clear hb2)
    | (go_at_call 37; refine (c12 _ bgo).mono ?_; rintro r w3 ⟨rfl, hb3⟩; obtain ⟨hc3, hf3⟩ := bcell hb3; have hz3_0 : w.heap.size < w3.heap.size := lt_below hb3 ltg; have hl3_0 := Nat.le_of_lt hz3_0; have hz3_1 : w1.heap.size < w3.heap.size := lt_below hb3 ltg; have hl3_1 := Nat.le_of_lt hz3_1; have hz3_2 : w2.heap.size < w3.heap.size := lt_below hb3 ltg; have hl3_2 := Nat.le_of_lt hz3_2; have hA3 := bnext (w0 := w) bgo hb3; have hs3 := hA3.size; clear hb3))
  exact bodyPost_ret (v := .tuple #[A4 V, .int .i64 F, .int .i64 E]) (by simp only [results, Tryz.results20]; go_simp) rfl ⟨rfl, bgo⟩
variable (c22 : ∀ W, Calls Tryz.prog 14 #[.int .i64 n] W fun r w' => r = .returned (.bool true) ∧ W = w')
include c22
variable (c15 : ∀ W, Calls Tryz.prog 15 #[.int .i64 d] W fun r w' => r = .returned (.bool true) ∧ W = w')
include c15
end
theorem cut_ex {l : List UInt8} {p : Prt} (h : cutP l = some p) : -9223372036854775808 ≤ p.ex ∧ p.ex ≤ 9223372036854775807 := by
  rcases (cut_good h).2 with ⟨_, _, h⟩ | h | h
  · omega
  · obtain ⟨_, _, _, h⟩ := h
    omega
  · obtain ⟨_, h⟩ := h
    omega
end Go.Proofs.YtplocajjfoiklaaGreatDoor

namespace Go.Proofs.YtplocajjfoiklaaGreatDoor
open Go.RowKit

theorem tex_len2 {c : Int} {s g : Bool} {d : List UInt8} {e : Int} (he : -9223372036854775808 ≤ e ∧ e ≤ 9223372036854775807) : (texT c s g d e).length ≤ d.length + 100 := by
  have hi := Lib.itoa_length_le e he.1 he.2
  have h1 : (bodT c g d e).length ≤ d.length + 50 := by
    unfold bodT
    split
    · simp
    · split
      · unfold nanT
        simp only [List.length_append, List.length_cons]
        split <;> split <;> simp <;> omega
      · unfold finT dgT exT
        simp only [List.length_append]
        split <;> split <;> simp <;> omega
  unfold texT
  rw [List.length_append]
  split <;> simp <;> omega
theorem cut_dl {l : List UInt8} {p : Prt} (h : cutP l = some p) : p.dig.length ≤ l.length := by
  unfold cutP at h
  split at h
  · cases h
  · rename_i hl
    have hs := sgR_le l
    unfold bodP at h
    split at h
    · cases h
      show (finD (sgR l)).length ≤ l.length
      unfold finD
      have h1 := bar_le (dgs (sgR l) ++ frac (sgR l))
      have h2 := congrArg List.length (dgs_rst (sgR l))
      have h3 : (frac (sgR l)).length ≤ (rst (sgR l)).length := by
        unfold frac; split
        · exact Nat.le_trans (dgs_le _) (trimPre_le _ _)
        · simp
      rw [List.length_append] at h1 h2
      omega
    · split at h
      · cases h
        exact Nat.zero_le _
      · split at h
        · cases h
          show (bar (paD (nanR (sml (sgR l))))).length ≤ l.length
          have h1 := bar_le (paD (nanR (sml (sgR l))))
          have h2 : (paD (nanR (sml (sgR l)))).length ≤ (nanR (sml (sgR l))).length := by
            unfold paD
            split
            · exact Nat.le_trans (dgs_le _) (trimPre_le _ _)
            · exact Nat.zero_le _
          have h3 : (nanR (sml (sgR l))).length ≤ (sml (sgR l)).length := by
            unfold nanR
            exact Nat.le_trans (trimPre_le _ _) (trimPre_le _ _)
          rw [sml_len] at h3
          omega
        · cases h
theorem cut_jn {l : List UInt8} {p : Prt} (h : cutP l = some p) (hl : l.length ≤ 3001) : jnP p := by
  have h1 := cut_good h
  have h2 := cut_dl h
  have h3 := tex_len2 (c := p.cls) (s := p.sg) (g := p.sn) (d := p.dig) (cut_ex h)
  refine jn_of_gd ⟨h1.1, ?_⟩
  rcases h1.2 with ⟨a, b, c⟩ | h | ⟨a, b⟩
  · exact Or.inl ⟨a, b, c, by omega⟩
  · exact Or.inr (Or.inl h)
  · exact Or.inr (Or.inr ⟨a, b, by omega⟩)
/-- the parts with this sign -/
def Prt.at (p : Prt) (s : Bool) : Prt := ⟨p.cls, s, p.sn, p.dig, p.ex⟩
/-! Make by value -/
def mkV (n d : Int) (p : Prt) : Nat := if p.cls = 1 then rdV n d p.sg (tN (dV p.dig) (pwE p.dig.length p.ex)) (tD (pwE p.dig.length p.ex)) (pwE p.dig.length p.ex) else if p.cls = 2 then pkV n ⟨2, p.sg, false, 0, 0⟩ else pkV n ⟨3, p.sg, p.sn, 0, plV (fN n) p.sn (dV p.dig)⟩
def mkF (n d : Int) (p : Prt) : Int := if p.cls = 1 then rdF n d p.sg (tN (dV p.dig) (pwE p.dig.length p.ex)) (tD (pwE p.dig.length p.ex)) (pwE p.dig.length p.ex) else 0
theorem make_v {n d : Int} {p : Prt} (hb : binN n) (hk : knB d) (hj : jnP p) (he : -9223372036854775808 ≤ p.ex ∧ p.ex ≤ 9223372036854775807) (W : World) (hT : Tab W) (hT10 : Tb10 W) :
    Calls Tryz.prog 37 #[.int .i64 n, .int .i64 d, p.v] W fun r w' => r = .returned (.tuple #[A4 (mkV n d p), .int .i64 (mkF n d p), .int .i64 0]) ∧ Below W.heap.size W w' := by
  have c28 := fun W (hT : Tab W) => rck_good n d W hT ⟨hb, hk⟩
  have hgd := gd_of_jn hj
  have hl4 := hj.1
  obtain ⟨hdD, hcls⟩ := id hgd
  have hall := gdD_all hdD
  obtain ⟨fl1, fl2, fl3, fl4, fl5⟩ := fld_bd hb
  have hf2 := fN_ge hb
  unfold mkV mkF
  rcases hcls with ⟨hc, hsn, hx, _⟩ | ⟨hc, hsn, hd0, hx0⟩ | ⟨hc, hx0, _⟩
  · rw [if_pos hc, if_pos hc]
    exact make_1 n d p.cls p.sg p.sn p.dig p.ex _ _ _ _ _ _ _ W hT c28 (fun W' hW' => join_y p W' (hT10.next hW') he hj) hc _ _ _ (fun W' hT' => finite8 n d 1 p.sg p.sn p.dig p.ex W' hT' hb hk hall hl4)
  · have hc1 : ¬ p.cls = 1 := by omega
    rw [if_neg hc1, if_neg hc1, if_pos hc]
    have hi : isD (fN n) (leastN n) (mostN n) ⟨2, p.sg, false, 0, 0⟩ := Or.inr (Or.inl ⟨rfl, rfl, rfl, rfl⟩)
    have hE : pkE n ⟨2, p.sg, false, 0, 0⟩ = 0 := by unfold pkE; rw [if_pos hb, if_pos hi]
    have c34 := fun W hT => pack_any n ⟨2, p.sg, false, 0, 0⟩ W hT (show 0 < 2 ^ 256 by decide)
    rw [show (Dat.v ⟨2, p.sg, false, 0, 0⟩) = _ from DV_zero 2 p.sg false 0, hE] at c34
    exact make_2 n d p.cls p.sg p.sn p.dig p.ex _ _ _ _ _ _ _ W hT c28 (fun W' hW' => join_y p W' (hT10.next hW') he hj) hc _ _ (by rw [hsn]; exact c34)
  · have hc1 : ¬ p.cls = 1 := by omega
    have hc2 : ¬ p.cls = 2 := by omega
    rw [if_neg hc1, if_neg hc1, if_neg hc2]
    have hi := pl_isD (l := leastN n) (m := mostN n) p.sg p.sn (dV p.dig) hf2
    have hE : pkE n ⟨3, p.sg, p.sn, 0, plV (fN n) p.sn (dV p.dig)⟩ = 0 := by unfold pkE; rw [if_pos hb, if_pos hi]
    have hlt := plV_lt (f := fN n) (A := dV p.dig) p.sn fl4
    have c34 := fun W hT => pack_any n ⟨3, p.sg, p.sn, 0, plV (fN n) p.sn (dV p.dig)⟩ W hT hlt
    rw [hE] at c34
    exact make_3 n d p.cls p.sg p.sn p.dig p.ex _ _ _ _ _ _ _ W hT c28 (fun W' hW' => join_y p W' (hT10.next hW') he hj) hc _ _ _ (fun W' => payload8 _ _ _ _ _ _ _ 3 p.sg p.sn p.dig p.ex W' fl4 hall hl4) c34
/-! Read by value -/
theorem read_v {n d : Int} {l : List UInt8} {p : Prt} (hb : binN n) (hk : knB d) (h : cutP l = some p) (hl : l.length ≤ 3001) (W : World) (hT : Tab W) (hT10 : Tb10 W) :
    Calls Tryz.prog 20 #[.int .i64 n, .int .i64 d, .string (B l)] W fun r w' => r = .returned (.tuple #[A4 (mkV n d p), .int .i64 (mkF n d p), .int .i64 0]) ∧ Below W.heap.size W w' := by
  have c29 := fun W => cut_any l W (by omega)
  rw [(cutE_some h).1, (cutE_some h).2] at c29
  exact read_k n d l p _ _ _ _ _ _ W hT _ _ _ (fun W hT => rck_good n d W hT ⟨hb, hk⟩) c29 (fun W' hW' => make_v hb hk (cut_jn h hl) (cut_ex h) W' (hT.go hW') (hT10.next hW'))
end Go.Proofs.YtplocajjfoiklaaGreatDoor

namespace Go.Proofs.YtplocajjfoiklaaGreatDoor
open Go.RowKit

theorem NT.head {K V : Nat} {v : Value} {w : World} (h : NT K V v w) (hV : V ≠ 0) : ∃ g k cap z0, v = .slice (some ⟨g, 0, none⟩) k cap ∧ 0 < k ∧ k ≤ K ∧ g < w.heap.size ∧ w.cell? ⟨g, 0, none⟩ = some (.int .u64 z0) ∧ 0 ≤ z0 ∧ z0 ≤ 18446744073709551615 ∧ z0 % 2 = ((V % 2 : Nat) : Int) := by
  have hz := h.zero
  obtain ⟨g, k, cap, z, rfl, hk, ⟨n1, n2, n3, n4, n5⟩, hv, hs⟩ := h
  obtain ⟨g', k', cap', e, _, hz'⟩ := hz
  cases e
  have hk0 : k ≠ 0 := fun e => hV (hz'.1 e)
  rcases n5 with ⟨n5, _⟩ | ⟨b, off, e, hb, hc⟩
  · cases n5
  · cases e
    have hc0 := hc 0 (by omega)
    have hw := n3 0
    have hp := val_odd (by omega : 0 < k) hv
    exact ⟨g, k, cap, z 0, rfl, by omega, hk, hb, hc0, hw.1, hw.2, by omega⟩
attribute [local irreducible] W4 Nz Nt NT NV
end Go.Proofs.YtplocajjfoiklaaGreatDoor

namespace Go.Proofs.YtplocajjfoiklaaGreatDoor
open Go.RowKit

theorem un_isD {n : Int} {B : Nat} (h : goodN n B) : isD (fN n) (leastN n) (mostN n) (unD n B) := by
  have hF := bin_fm h.1
  obtain ⟨S, E, F, hS, hE, hFr, hB⟩ := fields_in h.2
  have hu : unD n B = mean (fN n) (eN n) (leastN n) S E F := by
    unfold unD; rw [if_pos h, hB, unp_mean _ hS hE hFr]
  rw [hu]
  exact (mean_isD hF hS hE hFr).1
end Go.Proofs.YtplocajjfoiklaaGreatDoor

namespace Go.Proofs.YtplocajjfoiklaaGreatDoor
open Go.RowKit

def sgL (s : Bool) : List UInt8 := if s then [45] else []
attribute [local irreducible] W4
end Go.Proofs.YtplocajjfoiklaaGreatDoor

namespace Go.Proofs.YtplocajjfoiklaaGreatDoor
open Go.RowKit

theorem hxL_take {N c i : Nat} (h : i < c) : (hxL N c).take (i + 1) = (hxL N c).take i ++ [hxd (N / 16 ^ (c - 1 - i) % 16)] := by
  have hl : i < (hxL N c).length := by rw [hxL_len]; exact h
  have hg := hxL_get (N := N) h
  rw [List.getElem?_eq_getElem hl] at hg
  rw [List.take_succ_eq_append_getElem hl, Option.some.inj hg]
section
variable {n : Int} {V : Nat} (hV : V < 2 ^ 256) (hg : goodN n V) (w : World) (hT10 : Tb10 w)
include hV hg hT10
end
end Go.Proofs.YtplocajjfoiklaaGreatDoor
