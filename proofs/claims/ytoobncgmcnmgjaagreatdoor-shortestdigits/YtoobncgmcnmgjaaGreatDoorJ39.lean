/-
  Texts that the proof leans on, joined: St9, Su9, Fl, Su8, Sv9, Lift, Lfw, Lfd, Lk, Byt, Rev.
-/
import Derived.Test.YtoobncgmcnmgjaaGreatDoorJ38
import Derived.Test.YtoobncgmcnmgjaaGreatDoorJ31
import Derived.Test.YtoobncgmcnmgjaaGreatDoorJ25
import Derived.Test.YtoobncgmcnmgjaaGreatDoorJ1
import Derived.Test.YtoobncgmcnmgjaaGreatDoorJ35
import Derived.ProofKit
import Derived.OpenShut
import Derived.Carry
import Derived.Deep.DeepHandedRow
import Derived.Test.YtoobncgmcnmgjaaGreatDoorJ3
import Derived.Test.YtoobncgmcnmgjaaGreatDoorJ2
import Derived.Test.YtoobncgmcnmgjaaGreatDoorJ16
import Derived.Test.YtoobncgmcnmgjaaGreatDoorRows
import Derived.LaidLaws
import Derived.ChangeMaps5
import Derived.Test.YtoobncgmcnmgjaaGreatDoorJ30
import Derived.Shelf.SlicesE.Reverse
set_option linter.unusedVariables false
set_option linter.unusedSectionVars false
set_option linter.unusedSimpArgs false
set_option maxRecDepth 20000
namespace Go.Proofs.YtoobncgmcnmgjaaGreatDoor
open Go.RowKit

theorem un_isD {n : Int} {B : Nat} (h : goodN n B) : isD (fN n) (leastN n) (mostN n) (unD n B) := by
  have hF := bin_fm h.1
  obtain ⟨S, E, F, hS, hE, hFr, hB⟩ := fields_in h.2
  have hu : unD n B = mean (fN n) (eN n) (leastN n) S E F := by
    unfold unD; rw [if_pos h, hB, unp_mean _ hS hE hFr]
  rw [hu]
  exact (mean_isD hF hS hE hFr).1
/-- a number that has digits -/
def finP (n : Int) (V : Nat) : Prop := goodN n V ∧ (unD n V).c = 1 ∧ (unD n V).k ≠ 0
theorem fin_facts {n : Int} {V : Nat} (h : finP n V) : binN n ∧ (unD n V).k < 2 ^ 256 ∧ -16990 ≤ (unD n V).x ∧ (unD n V).x ≤ 16990 ∧ isD (fN n) (leastN n) (mostN n) (unD n V) := by
  obtain ⟨h1, h2, h3⟩ := h
  have hb := h1.1
  have hd := un_isD h1
  have hf := (bin_fm hb).f240
  rcases hd with ⟨e1, e2, e3, e4, e5, e6⟩ | ⟨e1, _⟩ | ⟨e1, _⟩
  · have hx := bin_x hb e4 e5
    refine ⟨hb, Nat.lt_of_lt_of_le e3 (Nat.pow_le_pow_right (by decide) (by omega)), hx.1, hx.2, Or.inl ⟨e1, e2, e3, e4, e5, e6⟩⟩
  · omega
  · omega
theorem rinfo_bin {n : Int} (hb : binN n) (W : World) : Calls Tryz.prog 25 #[.int .i64 n] W fun r w' => r = .returned (.tuple #[.agg #[.int .i64 (numN n), .string (nameN n), .int .i64 (baseN n), .int .i64 (widthN n), .int .i64 ((fN n : Int) + 1), .int .i64 (expN n), .int .i64 (leastN n), .int .i64 (mostN n), .int .i64 (payN n), .bool (denseN n)], .int .i64 (infoE n)]) ∧ Below W.heap.size W w' := by
  have := rofv_any n W
  rw [(bin_fields hb).2.2.1] at this
  exact this
/-- digits and exponent, the program's -/
theorem digits_fin {n : Int} {V : Nat} {E : Int} {K : Nat} (h : finP n V) (hV : V < 2 ^ 256) (hS : Shd n (unD n V).x (unD n V).k E K) (w : World) (hT : Tab w) :
    Calls Tryz.prog 10 #[.int .i64 n, A4 V] w fun r w' => r = .returned (.tuple #[.string (B (sdT n (unD n V).x (unD n V).k E K)), .int .i64 (E + (sdC n (unD n V).x (unD n V).k E K : Nat) + 1 - (sdT n (unD n V).x (unD n V).k E K).length), .int .i64 0]) ∧ Below w.heap.size w w' := by
  obtain ⟨hb, hk, hx1, hx2, hd⟩ := fin_facts h
  obtain ⟨b1, b2, b3⟩ := hS.bd hk h.2.2 ⟨hx1, hx2⟩
  have c22 : ∀ W, Tab W → Calls Tryz.prog 22 #[.int .i64 n, A4 V] W fun r w' => r = .returned (.tuple #[DV 1 (unD n V).s (unD n V).g (unD n V).x (unD n V).k, .int .i64 0]) ∧ Below W.heap.size W w' := fun W hW => by
    have := unpack_any n V W hW hV
    rw [show unE n V = 0 from if_pos h.1] at this
    unfold Dat.v at this
    rw [h.2.1] at this
    exact this
  have hc : sdC n (unD n V).x (unD n V).k E K ≤ 1 := by unfold sdC shC; split <;> omega
  have hl : (sdT n (unD n V).x (unD n V).k E K).length ≤ 1000 := by
    unfold sdT shT
    split
    · simp
    · rw [List.length_append, dsN_len]; simp; omega
  refine dig10_k n V 1 (unD n V).s (unD n V).g (unD n V).x (unD n V).k w hT c22 rfl (fun W => ?_) _ _ (by omega) hl (fun W hW => digitsOf_v 1 (unD n V).s (unD n V).g W hW hb hk h.2.2 ⟨hx1, hx2⟩ hS)
  have := none_v 1 (unD n V).s (unD n V).g (unD n V).x (unD n V).k W hk
  rw [decide_eq_false h.2.2] at this
  exact this
/-- the document's -/
theorem rdigits_fin {n : Int} {V : Nat} {E : Int} {K : Nat} (h : finP n V) (hV : V < 2 ^ 256) (hS : Shd n (unD n V).x (unD n V).k E K) (w : World) :
    Calls Tryz.prog 11 #[.int .i64 n, A4 V] w fun r w' => r = .returned (.tuple #[.string (B (sdT n (unD n V).x (unD n V).k E K)), .int .i64 (E - K + (sdC n (unD n V).x (unD n V).k E K : Nat)), .int .i64 0]) ∧ Below w.heap.size w w' := by
  obtain ⟨hb, hk, hx1, hx2, hd⟩ := fin_facts h
  have hk0 := h.2.2
  obtain ⟨b1, b2, b3⟩ := hS.bd hk hk0 ⟨hx1, hx2⟩
  have c16 : ∀ W, Calls Tryz.prog 16 #[.int .i64 n, A4 V] W fun r w' => r = .returned (.tuple #[DV 1 (unD n V).s (unD n V).g (unD n V).x (unD n V).k, .int .i64 0]) ∧ Below W.heap.size W w' := fun W => by
    have := runpack_any n V W hV
    rw [show unE n V = 0 from if_pos h.1] at this
    unfold Dat.v at this
    rw [h.2.1] at this
    exact this
  generalize (unD n V).x = x at *
  generalize (unD n V).k = k at *
  have hbk : bl k ≤ 256 := bl_le.2 hk
  have lw2 : lwN n x k ≤ 2 ∧ lwN n x k ≠ 0 := by unfold lwN; split <;> omega
  have o1 : bl (oE x E) ≤ 42000 := by
    unfold oE
    have a1 := bl_mul (2 ^ x.toNat) (10 ^ (-E).toNat)
    have a2 := two_bl x.toNat
    have a3 := ten_bl (-E).toNat
    omega
  have z1 : bl (zE x E) ≤ 42000 := by
    unfold zE
    have a1 := bl_mul (4 * 2 ^ (-x).toNat) (10 ^ E.toNat)
    have a4 := bl_mul 4 (2 ^ (-x).toNat)
    have a5 : bl 4 = 3 := by decide
    have a2 := two_bl (-x).toNat
    have a3 := ten_bl E.toNat
    omega
  have hRZ : 4 * k * oE x E < 10 * zE x E := by
    rcases Nat.lt_or_ge (4 * k * oE x E) (10 * zE x E) with h' | h'
    · exact h'
    · exact absurd (tn_next.2 h') hS.t1
  have hu : 2 * oE x E ≤ 4 * k * oE x E := Nat.mul_le_mul_right _ (by omega)
  have hd2 : lwN n x k * oE x E ≤ 2 * oE x E := Nat.mul_le_mul_right _ lw2.1
  have h10 : bl (10 * zE x E) ≤ 42010 := by have := bl_mul 10 (zE x E); have : bl 10 = 4 := (by decide); omega
  have hbR : bl (4 * k * oE x E) ≤ 42010 := by have := bl_mono (Nat.le_of_lt hRZ); omega
  refine rdig_w n V (unD n V).s (unD n V).g x k w E (lwN n x k) K (numN n) (baseN n) (widthN n) ((fN n : Int) + 1) (expN n) (leastN n) (mostN n) (payN n) (infoE n) (nameN n) (denseN n) (evK k) (4 * k * oE x E) (lwN n x k * oE x E) (2 * oE x E) (zE x E) hk hk0 (by omega) b3 rfl lw2 (zE_pos x E) hRZ hS.t0 (by omega) (by omega) (by omega) hS.st hS.mn c16 (fun W => rinfo_bin hb W) (fun W => rnat_v k W hk) (fun W v hv => rwidth_v (x := x) _ _ _ _ _ _ _ _ hb (by decide) hv.nv)
    (k * 2 ^ x.toNat) (2 ^ (-x).toNat) (1 * 2 ^ x.toNat) (4 * 2 ^ (-x).toNat) (oE x E) (fun W => rvalue_v 1 (unD n V).s (unD n V).g x k W hk ⟨hx1, hx2⟩) (fun W a b h1 h2 => rtens_v hk ⟨hx1, hx2⟩ (by omega) hS.t0 hS.t1 h1 h2) ?_ ?_ ?_ ?_ ?_ ?_
  · intro W
    refine (rscale2 x (by omega) (((nt_un1 (W := W) (V := 1) rfl rfl (by decide) (by decide)).next (below1 _ _)).more (by decide)) ((nt_un1 (V := 4) (by simp) rfl (by decide) (by decide)).more (by decide)) (by decide) (by decide)).mono fun r w' ⟨a, b, e1, e2, e3, e4⟩ => ⟨a, b, e1, e2, e3, bnx (bnx (below1 _ _) (below1 _ _)) e4⟩
  · intro W a b h1 h2
    have a1 := bl_mul 1 (2 ^ x.toNat)
    have a2 := two_bl x.toNat
    have a3 := two_bl (-x).toNat
    have a4 := bl_mul 4 (2 ^ (-x).toNat)
    have a5 : bl 4 = 3 := by decide
    have a6 : bl 1 = 1 := by decide
    refine (rsb_v E (by omega) h1 h2 (by omega) (by omega)).mono fun r w' ⟨a, b, e1, e2, e3, e4⟩ => ⟨a, b, e1, ?_, e3, e4⟩
    rw [Nat.one_mul] at e2
    exact e2
  · intro W a h1
    refine (rleft_nt 2 (by decide) (by decide) h1.nv).mono fun r w' ⟨u, e1, e2, e3⟩ => ⟨u, e1, e2.tight ?_, e3⟩
    have := bl_mul k (2 ^ 2)
    have : bl (2 ^ 2) = 3 := by decide
    omega
  · intro W a b h1 h2
    refine (rtimes_nt (by decide) (by decide) h1.nv h2.nv).mono fun r w' ⟨u, e1, e2, e3⟩ => ⟨u, e1, ?_, e3⟩
    rw [Nat.mul_comm k 4] at e2
    exact e2.tight (by omega)
  · intro W a h1
    refine (rtimes_nt (by decide) (by decide) (h1.next (below1 _ _)).nv (nt_un1 (W := W) (V := lwN n x k) rfl rfl (by omega) lw2.2).nv).mono fun r w' ⟨u, e1, e2, e3⟩ => ⟨u, e1, ?_, bnx (below1 _ _) e3⟩
    rw [Nat.mul_comm] at e2
    exact e2.tight (by have := bl_mono hd2; have := bl_mono hu; omega)
  · intro W a h1
    refine (rleft_nt 1 (by decide) (by decide) h1.nv).mono fun r w' ⟨u, e1, e2, e3⟩ => ⟨u, e1, ?_, e3⟩
    rw [show oE x E * 2 ^ 1 = 2 * oE x E by rw [Nat.pow_one, Nat.mul_comm]] at e2
    exact e2.tight (by have := bl_mono hu; omega)
end Go.Proofs.YtoobncgmcnmgjaaGreatDoor

namespace Go.Proofs.YtoobncgmcnmgjaaGreatDoor
open Go.RowKit

def unT (D : List UInt8) (e : Int) : List UInt8 := ((D.take 1 ++ if 1 < D.length then [46] ++ D.drop 1 else []) ++ [101]) ++ Lib.itoa e
theorem itoa_short {e : Int} (he : -100000 ≤ e ∧ e ≤ 100000) : (Lib.itoa e).length ≤ 100 := by
  have := Lib.itoa_length_le e (by omega) (by omega)
  omega
attribute [local irreducible] W4
section
variable (n : Int) (Bp : Nat) (c : Int) (s g : Bool) (x : Int) (k : Nat) (w : World) (hT : Tab w) (hT10 : Tb10 w)
include hT
set_option maxHeartbeats 2000000 in
theorem wr_e (E : Int) (hE : (E != 0) = true) (c22 : ∀ W, Tab W → Calls Tryz.prog 22 #[.int .i64 n, A4 Bp] W fun r w' => r = .returned (.tuple #[DV c s g x k, .int .i64 E]) ∧ Below W.heap.size W w') :
    Calls Tryz.prog 12 #[.int .i64 n, A4 Bp] w fun r w' => r = .returned (.tuple #[.string (B []), .int .i64 E]) ∧ Below w.heap.size w w' := by
  have hsm := cell_set_map
  unfold DV A4 at *
  go_enter Tryz.func12, Tryz.ntmps12
  go_wp2_with (go_at_call 22; refine (c22 _ (hT.go bgo)).mono ?_; rintro r w1 ⟨rfl, hb1⟩; obtain ⟨hc1, hf1⟩ := bcell hb1; have hz1_0 : w.heap.size < w1.heap.size := lt_below hb1 ltg; have hl1_0 := Nat.le_of_lt hz1_0; have hA1 := bnext (w0 := w) bgo hb1; have hs1 := hA1.size; clear hb1)
  exact bodyPost_ret (v := .tuple #[.string ⟨#[]⟩, .int .i64 E]) (by simp only [results, Tryz.results12]; go_simp) rfl ⟨rfl, bgo⟩
include hT10
set_option maxHeartbeats 2000000 in
theorem wr_p (T : List UInt8) (hs : s = false) (c22 : ∀ W, Tab W → Calls Tryz.prog 22 #[.int .i64 n, A4 Bp] W fun r w' => r = .returned (.tuple #[DV c s g x k, .int .i64 0]) ∧ Below W.heap.size W w')
    (c39 : ∀ W, Tab W → Tb10 W → Calls Tryz.prog 39 #[.int .i64 n, DV c s g x k] W fun r w' => r = .returned (.string (B T)) ∧ Below W.heap.size W w') :
    Calls Tryz.prog 12 #[.int .i64 n, A4 Bp] w fun r w' => r = .returned (.tuple #[.string (B T), .int .i64 0]) ∧ Below w.heap.size w w' := by
  subst hs
  have hsm := cell_set_map
  unfold DV A4 at *
  go_enter Tryz.func12, Tryz.ntmps12
  go_wp2_with (first
    | (go_at_call 22; refine (c22 _ (hT.go bgo)).mono ?_; rintro r w1 ⟨rfl, hb1⟩; obtain ⟨hc1, hf1⟩ := bcell hb1; have hz1_0 : w.heap.size < w1.heap.size := lt_below hb1 ltg; have hl1_0 := Nat.le_of_lt hz1_0; have hA1 := bnext (w0 := w) bgo hb1; have hs1 := hA1.size; clear hb1)
    | (go_at_call 39; refine (c39 _ (hT.go bgo) (hT10.next bgo)).mono ?_; rintro r w2 ⟨rfl, hb2⟩; obtain ⟨hc2, hf2⟩ := bcell hb2; have hz2_0 : w.heap.size < w2.heap.size := lt_below hb2 ltg; have hl2_0 := Nat.le_of_lt hz2_0; have hz2_1 : w1.heap.size < w2.heap.size := lt_below hb2 ltg; have hl2_1 := Nat.le_of_lt hz2_1; have hA2 := bnext (w0 := w) bgo hb2; have hs2 := hA2.size; clear hb2))
  exact bodyPost_ret (v := .tuple #[.string (B T), .int .i64 0]) (by simp only [results, Tryz.results12]; go_simp) rfl ⟨rfl, bgo⟩
set_option maxHeartbeats 2000000 in
theorem wr_m (T : List UInt8) (hl : T.length ≤ 100000) (hs : s = true) (c22 : ∀ W, Tab W → Calls Tryz.prog 22 #[.int .i64 n, A4 Bp] W fun r w' => r = .returned (.tuple #[DV c s g x k, .int .i64 0]) ∧ Below W.heap.size W w')
    (c39 : ∀ W, Tab W → Tb10 W → Calls Tryz.prog 39 #[.int .i64 n, DV c s g x k] W fun r w' => r = .returned (.string (B T)) ∧ Below W.heap.size W w') :
    Calls Tryz.prog 12 #[.int .i64 n, A4 Bp] w fun r w' => r = .returned (.tuple #[.string (B ([45] ++ T)), .int .i64 0]) ∧ Below w.heap.size w w' := by
  subst hs
  have htl := B_toList
  have hsm := cell_set_map
  have p0 : (⟨#[45]⟩ : ByteArray) ++ B T = B ([45] ++ T) := B_app [45] T
  have z0 : (B T).size = T.length := B_size T
  generalize [45] ++ T = T2 at *
  unfold DV A4 at *
  go_enter Tryz.func12, Tryz.ntmps12
  go_wp2_with (first
    | (go_at_call 22; refine (c22 _ (hT.go bgo)).mono ?_; rintro r w1 ⟨rfl, hb1⟩; obtain ⟨hc1, hf1⟩ := bcell hb1; have hz1_0 : w.heap.size < w1.heap.size := lt_below hb1 ltg; have hl1_0 := Nat.le_of_lt hz1_0; have hA1 := bnext (w0 := w) bgo hb1; have hs1 := hA1.size; clear hb1)
    | (go_at_call 39; refine (c39 _ (hT.go bgo) (hT10.next bgo)).mono ?_; rintro r w2 ⟨rfl, hb2⟩; obtain ⟨hc2, hf2⟩ := bcell hb2; have hz2_0 : w.heap.size < w2.heap.size := lt_below hb2 ltg; have hl2_0 := Nat.le_of_lt hz2_0; have hz2_1 : w1.heap.size < w2.heap.size := lt_below hb2 ltg; have hl2_1 := Nat.le_of_lt hz2_1; have hA2 := bnext (w0 := w) bgo hb2; have hs2 := hA2.size; clear hb2))
  exact bodyPost_ret (v := .tuple #[.string (B T2), .int .i64 0]) (by simp only [results, Tryz.results12]; go_simp) rfl ⟨rfl, bgo⟩
end
end Go.Proofs.YtoobncgmcnmgjaaGreatDoor

namespace Go.Proofs.YtoobncgmcnmgjaaGreatDoor
open Go.RowKit

section
variable (D : List UInt8) (e : Int) (w : World) (hT10 : Tb10 w) (he : -100000 ≤ e ∧ e ≤ 100000)
include hT10 he
set_option maxHeartbeats 4000000 in
theorem ltext_1 (hD : D.length = 1) : Calls Tryz.prog 72 #[.string (B D), .int .i64 e] w fun r w' => r = .returned (.string (B (unT D e))) ∧ Below w.heap.size w w' := by
  have hi := itoa_short he
  have c53 := fun W (h : Tb10 W) => itoa_any e W (by omega) h
  have htl := B_toList
  have hsz : (B D).size = 1 := by rw [B_size, hD]
  have HU : Hid (unT D e = (D ++ [101]) ++ Lib.itoa e) := by
    show _ = _
    unfold unT
    rw [if_neg (by omega), List.append_nil, List.take_of_length_le (by omega)]
  have ht : (B D).extract 0 1 = B D := by rw [B_ext, List.drop_zero, List.take_of_length_le (by omega)]
  have p0 : B D ++ (⟨#[101]⟩ : ByteArray) = B (D ++ [101]) := B_app D [101]
  have z0 : (B (D ++ [101])).size = 2 := by rw [B_size, List.length_append, hD]; rfl
  have p1 : B (D ++ [101]) ++ B (Lib.itoa e) = B ((D ++ [101]) ++ Lib.itoa e) := B_app _ _
  obtain ⟨il, hil⟩ : ∃ il, (Lib.itoa e).length = il := ⟨_, rfl⟩
  have z2 : (B (Lib.itoa e)).size = il := by rw [B_size]; exact hil
  have hil2 : il ≤ 100 := by omega
  have hemp : D.isEmpty = false := by cases D with | nil => exact absurd hD (by decide) | cons y ys => rfl
  clear hD hi hil
  generalize hL0 : D ++ [101] = L0 at *
  clear hL0
  generalize Lib.itoa e = I at *
  generalize hL1 : L0 ++ I = L1 at *
  clear hL1
  go_enter Tryz.func72, Tryz.ntmps72
  go_wp2_with (go_at_call 53; refine (c53 _ (hT10.next bgo)).mono ?_; rintro r w3 ⟨rfl, hb3⟩)
  go_ret
  exact ⟨by rw [HU.out]; rfl, hb3⟩
set_option maxHeartbeats 4000000 in
theorem ltext_m (hD : 1 < D.length) (hD2 : D.length ≤ 4000) : Calls Tryz.prog 72 #[.string (B D), .int .i64 e] w fun r w' => r = .returned (.string (B (unT D e))) ∧ Below w.heap.size w w' := by
  have hi := itoa_short he
  have c53 := fun W (h : Tb10 W) => itoa_any e W (by omega) h
  have htl := B_toList
  obtain ⟨m, hm⟩ : ∃ m, D.length = m + 2 := ⟨D.length - 2, by omega⟩
  have hsz : (B D).size = m + 2 := by rw [B_size, hm]
  have HU : Hid (unT D e = ((D.take 1 ++ ([46] ++ D.drop 1)) ++ [101]) ++ Lib.itoa e) := by
    show _ = _
    unfold unT
    rw [if_pos hD]
  have ht : (B D).extract 0 1 = B (D.take 1) := by rw [B_ext, List.drop_zero]
  have hd : (B D).extract 1 (m + 2) = B (D.drop 1) := by have := B_drop D 1; rw [hsz] at this; exact this
  have hm2 : m ≤ 4000 := by omega
  have q0 : (⟨#[46]⟩ : ByteArray) ++ B (D.drop 1) = B ([46] ++ D.drop 1) := B_app [46] _
  have y0 : (B (D.drop 1)).size = m + 1 := by rw [B_size, List.length_drop, hm]; omega
  have y1 : (B ([46] ++ D.drop 1)).size = m + 2 := by rw [B_size, List.length_append, List.length_drop, hm]; simp; omega
  have y2 : (B (D.take 1)).size = 1 := by rw [B_size, List.length_take, hm]; omega
  have p0 : B (D.take 1) ++ B ([46] ++ D.drop 1) = B (D.take 1 ++ ([46] ++ D.drop 1)) := B_app _ _
  have z0 : (B (D.take 1 ++ ([46] ++ D.drop 1))).size = m + 3 := by rw [B_size] at y1 y2 ⊢; rw [List.length_append, y1, y2]; omega
  have p1 : B (D.take 1 ++ ([46] ++ D.drop 1)) ++ (⟨#[101]⟩ : ByteArray) = B ((D.take 1 ++ ([46] ++ D.drop 1)) ++ [101]) := B_app _ [101]
  have z1 : (B ((D.take 1 ++ ([46] ++ D.drop 1)) ++ [101])).size = m + 4 := by rw [B_size] at z0 ⊢; rw [List.length_append, z0]; rfl
  have p2 : B ((D.take 1 ++ ([46] ++ D.drop 1)) ++ [101]) ++ B (Lib.itoa e) = B (((D.take 1 ++ ([46] ++ D.drop 1)) ++ [101]) ++ Lib.itoa e) := B_app _ _
  obtain ⟨il, hil⟩ : ∃ il, (Lib.itoa e).length = il := ⟨_, rfl⟩
  have z2 : (B (Lib.itoa e)).size = il := by rw [B_size]; exact hil
  have hil2 : il ≤ 100 := by omega
  have hemp : D.isEmpty = false := by cases D with | nil => exact absurd hD (by decide) | cons y ys => rfl
  clear hD hD2 hm hi hil
  generalize Lib.itoa e = I at *
  generalize hL3 : ((D.take 1 ++ ([46] ++ D.drop 1)) ++ [101]) ++ I = L3 at *
  generalize hL2 : (D.take 1 ++ ([46] ++ D.drop 1)) ++ [101] = L2 at *
  generalize hL1 : D.take 1 ++ ([46] ++ D.drop 1) = L1 at *
  generalize hL0 : [46] ++ D.drop 1 = L0 at *
  generalize hA : D.take 1 = A0 at *
  generalize hB : D.drop 1 = B0 at *
  clear hL3 hL2 hL1 hL0 hA hB
  go_enter Tryz.func72, Tryz.ntmps72
  go_wp2_with (go_at_call 53; refine (c53 _ (hT10.next bgo)).mono ?_; rintro r w3 ⟨rfl, hb3⟩)
  go_ret
  exact ⟨by rw [HU.out]; rfl, hb3⟩
end
theorem ltext_v (D : List UInt8) (e : Int) (w : World) (hT10 : Tb10 w) (he : -100000 ≤ e ∧ e ≤ 100000) (hD : 1 ≤ D.length) (hD2 : D.length ≤ 4000) : Calls Tryz.prog 72 #[.string (B D), .int .i64 e] w fun r w' => r = .returned (.string (B (unT D e))) ∧ Below w.heap.size w w' := by
  by_cases h : D.length = 1
  · exact ltext_1 D e w hT10 he h
  · exact ltext_m D e w hT10 he (by omega) hD2
end Go.Proofs.YtoobncgmcnmgjaaGreatDoor

namespace Go.Proofs.YtoobncgmcnmgjaaGreatDoor
open Go.RowKit

attribute [local irreducible] W4
section
variable (n : Int) (s g : Bool) (x : Int) (k : Nat) (D : List UInt8) (e : Int) (w : World) (hT : Tab w) (hT10 : Tb10 w) (he : -100000 ≤ e ∧ e ≤ 100000)
  (c23 : ∀ W, Calls Tryz.prog 23 #[DV 1 s g x k] W fun r w' => r = .returned (.bool false) ∧ Below W.heap.size W w')
  (c24 : ∀ W, Tab W → Calls Tryz.prog 24 #[.int .i64 n, DV 1 s g x k] W fun r w' => r = .returned (.tuple #[.string (B D), .int .i64 e]) ∧ Below W.heap.size W w')
include hT hT10 he c23 c24
set_option maxHeartbeats 4000000 in
theorem uns_x (T : List UInt8) (c26 : ∀ W, Tb10 W → Calls Tryz.prog 72 #[.string (B D), .int .i64 e] W fun r w' => r = .returned (.string (B T)) ∧ Below W.heap.size W w') : Calls Tryz.prog 39 #[.int .i64 n, DV 1 s g x k] w fun r w' => r = .returned (.string (B T)) ∧ Below w.heap.size w w' := by
  have hsm := cell_set_map
  unfold DV at *
  go_enter Tryz.func39, Tryz.ntmps39
  go_wp2_with (first
    | (go_at_call 23; refine (c23 _).mono ?_; rintro r w1 ⟨rfl, hb1⟩; obtain ⟨hc1, hf1⟩ := bcell hb1; have hz1_0 : w.heap.size < w1.heap.size := lt_below hb1 ltg; have hl1_0 := Nat.le_of_lt hz1_0; have hA1 := bnext (w0 := w) bgo hb1; have hs1 := hA1.size; clear hb1)
    | (go_at_call 24; refine (c24 _ (hT.go bgo)).mono ?_; rintro r w2 ⟨rfl, hb2⟩; obtain ⟨hc2, hf2⟩ := bcell hb2; have hz2_0 : w.heap.size < w2.heap.size := lt_below hb2 ltg; have hl2_0 := Nat.le_of_lt hz2_0; have hA2 := bnext (w0 := w) bgo hb2; have hs2 := hA2.size; clear hb2)
    | (go_at_call 72; refine (c26 _ (hT10.next bgo)).mono ?_; rintro r w3 ⟨rfl, hb3⟩; obtain ⟨hc3, hf3⟩ := bcell hb3; have hz3_0 : w.heap.size < w3.heap.size := lt_below hb3 ltg; have hl3_0 := Nat.le_of_lt hz3_0; have hA3 := bnext (w0 := w) bgo hb3; have hs3 := hA3.size; clear hb3))
  go_ret
  exact ⟨rfl, bgo⟩
theorem uns_1 (hD : D.length = 1) : Calls Tryz.prog 39 #[.int .i64 n, DV 1 s g x k] w fun r w' => r = .returned (.string (B (unT D e))) ∧ Below w.heap.size w w' :=
  uns_x n s g x k D e w hT hT10 he c23 c24 _ fun W hW => ltext_v D e W hW he (by omega) (by omega)
theorem uns_m (hD : 1 < D.length) (hD2 : D.length ≤ 1000) : Calls Tryz.prog 39 #[.int .i64 n, DV 1 s g x k] w fun r w' => r = .returned (.string (B (unT D e))) ∧ Below w.heap.size w w' :=
  uns_x n s g x k D e w hT hT10 he c23 c24 _ fun W hW => ltext_v D e W hW he (by omega) (by omega)
end
end Go.Proofs.YtoobncgmcnmgjaaGreatDoor

namespace Go.Proofs.YtoobncgmcnmgjaaGreatDoor
open Go.RowKit

theorem third_shd : Shd 3 (-27) 13421773 (-1) 0 := ⟨by unfold tnP zE oE; decide, by unfold tnP zE oE; decide, by decide, fun j hj => by omega⟩
theorem third_un : unD 3 1036831949 = ⟨1, false, false, -27, 13421773⟩ ∧ unE 3 1036831949 = 0 := ⟨by kernel_rfl, by kernel_rfl⟩
theorem third_T : sdT 3 (-27) 13421773 (-1) 0 = [49] ∧ sdC 3 (-27) 13421773 (-1) 0 = 0 := by decide
/-- a tenth is written -/
theorem write_tenth (w : World) (hT : Tab w) (hT10 : Tb10 w) : Calls Tryz.prog 12 #[.int .i64 3, A4 1036831949] w fun r w' => r = .returned (.tuple #[.string (B [49, 101, 45, 49]), .int .i64 0]) ∧ Below w.heap.size w w' := by
  have hb : binN 3 := by decide
  refine wr_p 3 1036831949 1 false false (-27) 13421773 w hT hT10 [49, 101, 45, 49] rfl (fun W hW => ?_) (fun W hW hW10 => ?_)
  · have := unpack_any 3 1036831949 W hW (by decide)
    rw [third_un.1, third_un.2] at this
    exact this
  · have c24 : ∀ W, Tab W → Calls Tryz.prog 24 #[.int .i64 3, DV 1 false false (-27) 13421773] W fun r w' => r = .returned (.tuple #[.string (B [49]), .int .i64 (-1)]) ∧ Below W.heap.size W w' := fun W hW => by
      have := digitsOf_v (n := 3) 1 false false W hW hb (by decide) (by decide) (by decide) third_shd
      rw [third_T.1, third_T.2] at this
      exact this
    have c23 : ∀ W, Calls Tryz.prog 23 #[DV 1 false false (-27) 13421773] W fun r w' => r = .returned (.bool false) ∧ Below W.heap.size W w' := fun W => none_v 1 false false (-27) 13421773 W (by decide)
    have eu : unT [49] (-1) = [49, 101, 45, 49] := by kernel_rfl
    have := uns_1 3 false false (-27) 13421773 [49] (-1) W hW hW10 (by decide) c23 c24 rfl
    rw [eu] at this
    exact this
theorem A4_third : A4 1036831949 = .agg #[.int .u64 1036831949, .int .u64 0, .int .u64 0, .int .u64 0] := by unfold A4; rw [show W4 1036831949 0 = 1036831949 by decide, show W4 1036831949 1 = 0 by decide, show W4 1036831949 2 = 0 by decide, show W4 1036831949 3 = 0 by decide]
attribute [local irreducible] W4
set_option maxHeartbeats 1000000 in
theorem awake9 (w : World) (hT : Tab w) (hT10 : Tb10 w) : Calls Tryz.prog 9 #[] w fun r w' => r = .returned (.bool true) ∧ Below w.heap.size w w' := by
  have c12 := fun W (h1 : Tab W) (h2 : Tb10 W) => write_tenth W h1 h2
  rw [A4_third] at c12
  have eb : B [49, 101, 45, 49] = ⟨#[49, 101, 45, 49]⟩ := rfl
  rw [eb] at c12
  go_enter Tryz.func9, Tryz.ntmps9
  go_wp2_with (go_at_call 12; refine (c12 _ (hT.go bgo) (hT10.next bgo)).mono ?_; rintro r w1 ⟨rfl, hb1⟩)
  go_ret
  exact ⟨rfl, hb1⟩
set_option maxHeartbeats 2000000 in
theorem law3_w (n : Int) (V : Nat) (T : List UInt8) (at_ e : Int) (w : World) (hT : Tab w)
    (c9 : ∀ W, Below w.heap.size w W → Calls Tryz.prog 9 #[] W fun r w' => r = .returned (.bool true) ∧ Below W.heap.size W w')
    (c10 : ∀ W, Tab W → Calls Tryz.prog 10 #[.int .i64 n, A4 V] W fun r w' => r = .returned (.tuple #[.string (B T), .int .i64 at_, .int .i64 e]) ∧ Below W.heap.size W w')
    (c11 : ∀ W, Calls Tryz.prog 11 #[.int .i64 n, A4 V] W fun r w' => r = .returned (.tuple #[.string (B T), .int .i64 at_, .int .i64 e]) ∧ Below W.heap.size W w') :
    Calls Tryz.prog 3 #[.int .i64 n, A4 V] w fun r w' => r = .returned (.bool true) ∧ Below w.heap.size w w' := by
  have hsm := cell_set_map
  unfold A4 at *
  go_enter Tryz.func3, Tryz.ntmps3
  go_wp2_with (first
    | (go_at_call 9; refine (c9 _ bgo).mono ?_; rintro r w1 ⟨rfl, hb1⟩; obtain ⟨hc1, hf1⟩ := bcell hb1; have hz1_0 : w.heap.size < w1.heap.size := lt_below hb1 ltg; have hl1_0 := Nat.le_of_lt hz1_0; have hA1 := bnext (w0 := w) bgo hb1; have hs1 := hA1.size; clear hb1)
    | (go_at_call 10; refine (c10 _ (hT.go bgo)).mono ?_; rintro r w2 ⟨rfl, hb2⟩; obtain ⟨hc2, hf2⟩ := bcell hb2; have hz2_0 : w.heap.size < w2.heap.size := lt_below hb2 ltg; have hl2_0 := Nat.le_of_lt hz2_0; have hA2 := bnext (w0 := w) bgo hb2; have hs2 := hA2.size; clear hb2)
    | (go_at_call 11; refine (c11 _).mono ?_; rintro r w3 ⟨rfl, hb3⟩; obtain ⟨hc3, hf3⟩ := bcell hb3; have hz3_0 : w.heap.size < w3.heap.size := lt_below hb3 ltg; have hl3_0 := Nat.le_of_lt hz3_0; have hA3 := bnext (w0 := w) bgo hb3; have hs3 := hA3.size; clear hb3))
  go_ret
  exact ⟨by simp, bgo⟩
theorem sd_len {n x : Int} {k : Nat} {E : Int} {K : Nat} (hk : k < 2 ^ 256) (hk0 : k ≠ 0) (h : Shd n x k E K) : (sdT n x k E K).length = K + 1 := by
  unfold sdT shT
  split
  · rename_i h10
    have hRZ : 4 * k * oE x E < 10 * zE x E := by
      rcases Nat.lt_or_ge (4 * k * oE x E) (10 * zE x E) with h' | h'
      · exact h'
      · exact absurd (tn_next.2 h') h.t1
    rcases Nat.eq_zero_or_pos K with e | e
    · rw [e]; rfl
    · have := la_lt (zE_pos x E) e hRZ h.mn
      omega
  · rw [List.length_append, dsN_len]; rfl
/-- ShortestDigits -/
theorem shortestDigits_any (n : Int) (V : Nat) (w : World) (hT : Tab w) (hT10 : Tb10 w) (hV : V < 2 ^ 256) :
    Calls Tryz.prog 3 #[.int .i64 n, A4 V] w fun r w' => r = .returned (.bool true) ∧ Below w.heap.size w w' := by
  have c9 := fun W (hW : Below w.heap.size w W) => awake9 W (hT.go hW) (hT10.next hW)
  have c22 := fun W (hW : Tab W) => unpack_any n V W hW hV
  have c16 := fun W => runpack_any n V W hV
  by_cases hg : goodN n V
  · have e0 : unE n V = 0 := if_pos hg
    rw [e0] at c22 c16
    by_cases hc : (unD n V).c = 1
    · by_cases hk : (unD n V).k = 0
      · refine law3_w n V [] 0 6 w hT c9 (fun W hW => ?_) (fun W => ?_)
        · refine dig10_0 n V (unD n V).c (unD n V).s (unD n V).g (unD n V).x (unD n V).k W hW c22 hc (fun W' => ?_)
          have := none_v 1 (unD n V).s (unD n V).g (unD n V).x (unD n V).k W' (by rw [hk]; decide)
          rw [decide_eq_true hk] at this
          exact this
        · exact rdig_0 n V (unD n V).c (unD n V).s (unD n V).g (unD n V).x (unD n V).k W c16 hc hk
      · have hf : finP n V := ⟨hg, hc, hk⟩
        obtain ⟨hb, hkb, hx1, hx2, _⟩ := fin_facts hf
        obtain ⟨E, K, hS⟩ := Shd.ex (n := n) hkb hk ⟨hx1, hx2⟩
        refine law3_w n V _ _ 0 w hT c9 (fun W hW => digits_fin hf hV hS W hW) (fun W => ?_)
        have := rdigits_fin hf hV hS W
        rw [sd_len hkb hk hS, show E + (sdC n (unD n V).x (unD n V).k E K : Nat) + 1 - ((K + 1 : Nat) : Int) = E - K + (sdC n (unD n V).x (unD n V).k E K : Nat) by omega]
        exact this
    · have hc' : ((unD n V).c != 1) = true := by simpa using hc
      exact law3_w n V [] 0 6 w hT c9 (fun W hW => dig10_c n V (unD n V).c (unD n V).s (unD n V).g (unD n V).x (unD n V).k W hW c22 hc') (fun W => rdig_c n V (unD n V).c (unD n V).s (unD n V).g (unD n V).x (unD n V).k W c16 hc')
  · have e1 : unE n V = 1 := if_neg hg
    rw [e1] at c22 c16
    exact law3_w n V [] 0 1 w hT c9 (fun W hW => dig10_e n V (unD n V).c (unD n V).s (unD n V).g (unD n V).x (unD n V).k W hW 1 (by decide) c22) (fun W => rdig_e n V (unD n V).c (unD n V).s (unD n V).g (unD n V).x (unD n V).k W 1 (by decide) c16)
end Go.Proofs.YtoobncgmcnmgjaaGreatDoor

namespace Go.Proofs.YtoobncgmcnmgjaaGreatDoor
open Go.ChangeShapes Go.WideShapes Go.ChangeAt Go.RowKit

theorem Tryz.own : ownKnob Tryz.prog.godebug = none := by kernel_rfl
theorem Tryz.laidOut : laidOutB Tryz.prog = true := by kernel_rfl
def tabCells : Array Value := ((List.range 12).flatMap fun i => (List.range 4).map fun k => rowV i k).toArray
def layCells (c : Array Value) : Obj → Obj
  | .cells _ t frozen => .cells c t frozen
  | o => o
end Go.Proofs.YtoobncgmcnmgjaaGreatDoor

set_option maxRecDepth 100000
set_option maxRecDepth 20000
namespace Go.Proofs.YtoobncgmcnmgjaaGreatDoor
open Go.ChangeShapes Go.WideShapes Go.ChangeAt Go.RowKit

theorem Tryz.cells22 : Tryz.prog.cellsOf 22 = 1 := by kernel_rfl
section
variable {H : Type} {enc : TypeId × Value → H} {W : World} {r : Reach} {base b : Nat} {sp : Nat → Bool} {held : Bool} {t : TypeId} {n : Nat} {v : Value} {d : DataW H} {p : List MemPlace}
theorem open_words (ht : Tryz.prog.underlying t = some (.array n 22)) (hc : Tryz.prog.cellsOf t = n) (hok : Value.okWide Tryz.prog W r base t v) (h : DataW.Trod enc Tryz.prog W b sp held t v d p) :
    ∃ x, Words x ∧ v = .agg (arrOf x n) ∧ p = [] := by
  have ho : ∃ cs, v = .agg cs ∧ cs.size = n := by
    simp only [Value.okWide, ht] at hok
    obtain ⟨cs, h1, h2, _⟩ := hok
    exact ⟨cs, h1, by rw [h2, hc]⟩
  obtain ⟨cs, rfl, hcs⟩ := ho
  obtain ⟨fuel, hf⟩ := h
  obtain ⟨xs, m, rfl, hx, hl, hlen, hi⟩ := DataW.trod_array ht hf
  have hcell : ∀ i, i < n → ∃ z, cs[i]? = some (.int .u64 z) ∧ xs[i]? = some (.lit (.int .u64 z), []) ∧ (0 ≤ z ∧ z ≤ 18446744073709551615) := by
    intro i hin
    have h1 := hi i hin
    rw [Tryz.cells22] at h1
    have hix : i < xs.length := by omega
    rw [List.getElem?_eq_getElem hix] at h1
    obtain ⟨z, hz, hxz, hw⟩ := DataW.trod_int Tryz.underlying22 h1
    refine ⟨z, ?_, ?_, bounds_u64 hw⟩
    · have hic : i < cs.size := by omega
      have : ((Value.agg cs).cells.toList.drop (i * 1)).take 1 = [cs[i]] := by
        simp [Value.cells, List.take_one, List.head?_drop, hic]
      rw [this] at hz
      rw [Array.getElem?_eq_getElem hic]
      simpa using hz
    · rw [List.getElem?_eq_getElem hix, hxz]
  refine ⟨fun i => match cs[i]? with | some (.int .u64 z) => (if i < n then z else 0) | _ => 0, ?_, ?_, ?_⟩
  · intro i
    by_cases hin : i < n
    · obtain ⟨z, h1, _, h3⟩ := hcell i hin
      simp only [h1, if_pos hin]; exact h3
    · have : cs[i]? = none := by simp; omega
      simp only [this]; omega
  · congr 1
    refine arrOf_of cs n _ hcs fun i hin => ?_
    obtain ⟨z, h1, _, _⟩ := hcell i hin
    simp only [h1, if_pos hin]
  · have : p = xs.flatMap (·.2) := by
      have := congrArg Prod.snd hx; simpa using this
    rw [this]
    simp only [List.flatMap_eq_nil_iff]
    intro y hy
    obtain ⟨i, hin, rfl⟩ := List.getElem_of_mem hy
    obtain ⟨z, _, h2, _⟩ := hcell i (by omega)
    rw [List.getElem?_eq_getElem hin] at h2
    rw [Option.some.inj h2]
end
end Go.Proofs.YtoobncgmcnmgjaaGreatDoor

set_option maxRecDepth 100000
namespace Go.Proofs.YtoobncgmcnmgjaaGreatDoor
open Go.ChangeShapes Go.WideShapes Go.ChangeAt Go.RowKit

section
variable {H : Type} {enc : TypeId × Value → H} {W : World} {r : Reach} {base b : Nat} {sp : Nat → Bool} {held : Bool} {t : TypeId} {n : Nat} {v : Value} {d : DataW H} {p : List MemPlace}
theorem open_bits (hok : Value.okWide Tryz.prog W r base 24 v) (h : DataW.Trod enc Tryz.prog W b sp held 24 v d p) : ∃ A, A < 2 ^ 256 ∧ v = A4 A ∧ p = [] := by
  obtain ⟨x, hx, rfl, hp⟩ := open_words Tryz.underlying24 (by kernel_rfl) hok h
  obtain ⟨A, hA, he, _⟩ := words_A4 hx
  exact ⟨A, hA, he, hp⟩
theorem bits_stay {W' : World} {sp' : Nat → Bool} (h : DataW.Trod enc Tryz.prog W 0 (fun _ => true) true 24 v d []) : DataW.Trod enc Tryz.prog W' 0 sp' true 24 v d [] :=
  WideElems.Trod_stays Tryz.laidOut (by kernel_rfl) (of_decide_eq_true (by kernel_rfl)) h (by simp) (by simp)
end
end Go.Proofs.YtoobncgmcnmgjaaGreatDoor

namespace Go.Proofs.YtoobncgmcnmgjaaGreatDoor
open Go.ChangeShapes Go.WideShapes Go.ChangeAt Go.RowKit

/-- Go's tables, as cells -/
def firstCells : Array Value := (((List.replicate 128 240 ++ List.replicate 66 241 ++ List.replicate 30 2 ++ [19] ++ List.replicate 12 3 ++ [35] ++ List.replicate 2 3 ++ [52] ++ List.replicate 3 4 ++ [68] ++ List.replicate 11 241 : List Int)).map fun n => Value.int .u8 n).toArray
def rangeCells : Array Value := ((([128, 191, 160, 191, 128, 159, 144, 191, 128, 143] ++ List.replicate 22 0 : List Int)).map fun n => Value.int .u8 n).toArray
def db32Cells : Array Value := (([0, 1, 28, 2, 29, 14, 24, 3, 30, 22, 20, 15, 25, 17, 4, 8, 31, 27, 13, 23, 21, 19, 16, 7, 26, 12, 18, 6, 11, 5, 10, 9] : List Int).map fun n => Value.int .u8 n).toArray
def db64Cells : Array Value := ((([0, 1, 56, 2, 57, 49, 28, 3, 61, 58, 42, 50, 38, 29, 17, 4, 62, 47, 59, 36, 45, 43, 51, 22, 53, 39, 33, 30, 24, 18, 12, 5] ++ [63, 55, 48, 27, 60, 41, 37, 16, 46, 35, 44, 21, 52, 32, 23, 11, 54, 26, 40, 15, 34, 20, 31, 10, 25, 14, 19, 9, 13, 8, 7, 6] : List Int)).map fun n => Value.int .u8 n).toArray
def pow10Cells : Array Value := ((List.range 20).map fun k => Value.int .u64 ((10 ^ k : Nat) : Int)).toArray
noncomputable def laidWorld8 (os : Os) : World :=
  { World.holding Tryz.prog os ⟨#[], #[], []⟩ with heap := ((((((World.holding Tryz.prog os ⟨#[], #[], []⟩).heap.modify 0 (layCells tabCells)).modify 3 (layCells pow10Cells)).modify 4 (layCells db32Cells)).modify 5 (layCells db64Cells)).modify 6 (layCells firstCells)).modify 7 (layCells rangeCells) }
theorem laid_tail {P : Program} {W : World} {x : String × DataW Unit} {r : List (String × DataW Unit)} (h : laidMet P (x :: r) W) : laidMet P r W := by
  obtain ⟨ps, ⟨g, t, cs, fuel, p, q, _, _, _, _, hr, rfl⟩, hn, hc⟩ := h
  refine ⟨q, hr, ?_, fun b off hm => hc b off (by simp [hm])⟩
  exact (List.nodup_append.1 hn).2.1
theorem pw10_of_list {W : World} {x y : String × DataW Unit} {r : List (String × DataW Unit)} (h : laidMet Tryz.prog (x :: y :: ("internal/strconv.uint64pow10", Lib.tabData .u64 Lib.pow10Tab) :: r) W) : Tb10 W :=
  Lib.tabIs_of_head (P := Tryz.prog) (name := "internal/strconv.uint64pow10") (k := .u64) (zs := Lib.pow10Tab) (g := 3) (t := 211) (e := 22) (n := 20) (by kernel_rfl) (by kernel_rfl) (by kernel_rfl) (by kernel_rfl) (by kernel_rfl) (by kernel_rfl) (laid_tail (laid_tail h))
theorem tab_of_list {W : World} {x0 x1 x2 x3 : String × DataW Unit} {r : List (String × DataW Unit)} (h : laidMet Tryz.prog (x0 :: x1 :: x2 :: x3 :: ("caliper/desc.rows", Rows.laid_caliper_desc_rows) :: r) W) : Tab W :=
  tab_of_laid (laid_tail (laid_tail (laid_tail (laid_tail h))))
section
variable {H : Type} {enc : TypeId × Value → H} {W : World} {r : Reach} {base b : Nat} {sp : Nat → Bool} {held : Bool} {t : TypeId} {n : Nat} {v : Value} {d : DataW H} {p : List MemPlace}
end
end Go.Proofs.YtoobncgmcnmgjaaGreatDoor

set_option maxRecDepth 20000
namespace Go.Proofs.YtoobncgmcnmgjaaGreatDoor
open Go.RowKit

set_option maxHeartbeats 400000 in
theorem trimRB_any (b n c : Nat) (f : Nat → Int) (w : World) (hn : n < 4294967296) (hnc : n ≤ c) (hc2 : c ≤ maxLen) (hf : ∀ i, 0 ≤ f i ∧ f i ≤ 9) (hc : ∀ i, i < n → w.cell? ⟨b, i, none⟩ = some (.int .u8 (48 + f i))) :
    Calls Tryz.prog 162 #[.slice (some ⟨b, 0, none⟩) n c, .int .u8 48] w fun e w' => e = .returned (.slice (some ⟨b, 0, none⟩) (sizeL f n) c) ∧ w = w' := by
  unfold maxLen at hc2
  go_enter Tryz.func162, Tryz.ntmps162
  go_wp2
  go_loop [0] (fun t => ∃ k : Nat, k ≤ n ∧ sizeL f k = sizeL f n ∧ t = .slice (some ⟨b, 0, none⟩) k c) (fun t => match t with | .slice _ k _ => k | _ => 0)
  case atStart => exact ⟨n, Nat.le_refl _, rfl, rfl⟩
  case round =>
    obtain ⟨k, hk, hs, rfl⟩ := hrel
    by_cases h0 : k = 0
    · subst h0
      have HS : Hid (sizeL f n = 0) := hs.symm
      clear hs hc
      go_wp2
      go_ret
      exact ⟨by rw [HS.out]; rfl, rfl⟩
    · obtain ⟨j, rfl⟩ : ∃ j, k = j + 1 := ⟨k - 1, by omega⟩
      have hcj := hc j (by omega)
      have hfj := hf j
      by_cases hzj : f j = 0
      · have HS : Hid (sizeL f j = sizeL f n) := by
          have : sizeL f (j + 1) = sizeL f j := by simp [sizeL, hzj]
          exact this.symm.trans hs
        clear hs hc hf
        rw [hzj] at hcj
        go_wp2
        go_round
        case rel => exact ⟨j, by omega, HS.out, rfl⟩
        case measure => simp
      · have HS : Hid (sizeL f n = j + 1) := by
          have : sizeL f (j + 1) = j + 1 := by simp [sizeL, hzj]
          exact hs.symm.trans this
        have hne : (48 + f j == 48) = false := by simp; omega
        clear hs hc hf
        go_wp2
        go_ret
        exact ⟨by rw [HS.out]; rfl, rfl⟩

set_option maxRecDepth 20000 in
set_option maxHeartbeats 400000 in
theorem trimRight_any (b n c : Nat) (f : Nat → Int) (w : World) (hn : n < 4294967296) (hnc : n ≤ c) (hc2 : c ≤ maxLen) (hf : ∀ i, 0 ≤ f i ∧ f i ≤ 9) (hc : ∀ i, i < n → w.cell? ⟨b, i, none⟩ = some (.int .u8 (48 + f i))) :
    Calls Tryz.prog 134 #[.slice (some ⟨b, 0, none⟩) n c, .string ⟨#[48]⟩] w fun e w' => e = .returned (.slice (some ⟨b, 0, none⟩) (sizeL f n) c) ∧ w = w' := by
  have hT := trimRB_any b n c f w hn hnc hc2 hf hc
  clear hf
  by_cases h0 : n = 0
  · subst h0
    clear hT hc
    go_enter Tryz.func134, Tryz.ntmps134
    go_wp2
    go_ret
    exact ⟨rfl, rfl⟩
  · have hn0 : ((n : Int) == 0) = false := by simp; omega
    clear hc
    generalize sizeL f n = s at *
    go_enter Tryz.func134, Tryz.ntmps134
    have h48 : ∀ h, ((⟨#[48]⟩ : ByteArray)[0]'h).toNat = 48 := fun _ => rfl
    go_wp2_with (go_at_call 162; refine hT.mono ?_; rintro e w' ⟨rfl, rfl⟩)
    go_ret
    exact ⟨rfl, rfl⟩
set_option maxHeartbeats 400000 in
theorem trimRight_nil (w : World) :
    Calls Tryz.prog 134 #[.slice none 0 0, .string ⟨#[48]⟩] w fun e w' => e = .returned (.slice none 0 0) ∧ w = w' := by
  go_enter Tryz.func134, Tryz.ntmps134
  go_wp2
  go_ret
  exact ⟨rfl, rfl⟩
end Go.Proofs.YtoobncgmcnmgjaaGreatDoor

namespace Go.Proofs
open Go.Shelf
def Tryz.laysRev_ren : Go.Shelf.Ren := ⟨fun | 35 => 135 | n => n, fun | 22 => 80 | 23 => 5 | 3 => 3 | 4 => 4 | 0 => 0 | n => n, fun | n => n⟩
theorem Tryz.laysRev : Go.Proofs.SlLaysE.n35 Tryz.prog Tryz.laysRev_ren := {
  mixed := by kernel_rfl
  f35 := ⟨Tryz.f135.name, by decide, Tryz.func135.trans (congrArg some (by kernel_rfl))⟩
  t0 := Tryz.underlying0
  a0 := Tryz.isAgg0
  z0 := Tryz.sizeOf0
  v0 := Tryz.zeroValue0
  t3 := Tryz.underlying3
  a3 := Tryz.isAgg3
  z3 := Tryz.sizeOf3
  v3 := Tryz.zeroValue3
  t4 := Tryz.underlying4
  a4 := Tryz.isAgg4
  z4 := Tryz.sizeOf4
  v4 := Tryz.zeroValue4
  t22 := Tryz.underlying80
  a22 := Tryz.isAgg80
  z22 := Tryz.sizeOf80
  v22 := Tryz.zeroValue80
  a23 := Tryz.isAgg5
  z23 := Tryz.sizeOf5 }
end Go.Proofs
set_option maxRecDepth 20000
set_option linter.unusedSectionVars false
set_option linter.unusedSimpArgs false
namespace Go.Proofs.YtoobncgmcnmgjaaGreatDoor
open Go.RowKit Go.Sort


theorem reverse_any (g n c : Nat) (f : Nat → Int) (w : World) (hn : n < 4294967296) (h : HasB g n f w) :
    Calls Tryz.prog 135 #[.slice (some ⟨g, 0, none⟩) n c] w fun e w' => e = .returned (.tuple #[]) ∧ HasB g n (fun i => f (n - 1 - i)) w' ∧ Upd g w w' := by
  obtain ⟨hg, hc⟩ := h
  have hl : ((List.range n).map f).length = n := by simp
  have hH : Holds (Value.int .u8) w g 0 ((List.range n).map f).toArray := by
    intro j hj
    have hj' : j < n := by simpa using hj
    have := hc j hj'
    rw [Nat.zero_add]
    refine ⟨?_, this.2⟩
    rw [this.1, getElem!_pos _ j hj]
    simp
  have hR := AnyE.slices_Reverse Tryz.laysRev (Value.int .u8) (fun _ => rfl) g 0 c ((List.range n).map f) w hH (by rw [hl]; omega)
  rw [hl] at hR
  refine Calls.mono hR ?_
  rintro e w' ⟨rfl, m, rfl⟩
  have hs : ((List.range n).map f).reverse.toArray.size = ((List.range n).map f).toArray.size := by simp
  refine ⟨rfl, ⟨by simpa using hg, fun i hi => ?_⟩, ?_⟩
  · have hh := holds_putRow (Value.int .u8) (Sort.ahead w m) g 0 _ ((List.range n).map f).reverse.toArray (holds_ahead _ _ _ _ _ _ hH) hs i (by simpa using hi)
    rw [Nat.zero_add] at hh
    refine ⟨?_, hh.2⟩
    rw [hh.1, getElem!_pos _ i (by simpa using hi)]
    simp
  · refine ⟨rfl, rfl, rfl, by simp, fun k hk => ?_⟩
    simp only [putRow, mapBlock, Array.getElem?_modify]
    rw [if_neg (fun e => hk e.symm)]
    rfl
end Go.Proofs.YtoobncgmcnmgjaaGreatDoor
