/-
  Texts that the proof leans on, joined: Sn9, Sp9, Ss9, St9, Su9, Sw9, Sx9, Sh8, Sj8, Yf, Lift.
-/
import Derived.Test.YtpfnfaekgaipjaaGreatDoorJ32
import Derived.Test.YtpfnfaekgaipjaaGreatDoorJ31
import Derived.Test.YtpfnfaekgaipjaaGreatDoorJ17
import Derived.Test.YtpfnfaekgaipjaaGreatDoorJ36
import Derived.Test.YtpfnfaekgaipjaaGreatDoorJ29
import Derived.Shelf.SlicesE.Reverse
import Derived.Test.YtpfnfaekgaipjaaGreatDoorJ27
import Derived.Test.YtpfnfaekgaipjaaGreatDoorJ1
import Derived.Test.YtpfnfaekgaipjaaGreatDoorJ24
import Derived.Test.YtpfnfaekgaipjaaGreatDoorJ34
import Derived.Test.YtpfnfaekgaipjaaGreatDoorJ15
import Derived.Test.YtpfnfaekgaipjaaGreatDoorJ37
import Derived.ProofKit
import Derived.OpenShut
import Derived.Carry
import Derived.Deep.DeepHandedRow
set_option linter.unusedVariables false
set_option linter.unusedSectionVars false
set_option linter.unusedSimpArgs false
set_option maxRecDepth 20000
namespace Go.Proofs.YtpfnfaekgaipjaaGreatDoor
open Go.RowKit

theorem nt_at0 {W : World} {g k : Nat} (hk : k < 2 ^ 256) (hg : g < W.heap.size) (h0 : W.cell? ⟨g, 0, none⟩ = some (.int .u64 (W4 k 0))) (h1 : W.cell? ⟨g, 1, none⟩ = some (.int .u64 (W4 k 1))) (h2 : W.cell? ⟨g, 2, none⟩ = some (.int .u64 (W4 k 2))) (h3 : W.cell? ⟨g, 3, none⟩ = some (.int .u64 (W4 k 3))) :
    Nt 4 k (.slice (some ⟨g, 0, none⟩) 4 4) W := by
  unfold Nt
  refine ⟨some ⟨g, 0, none⟩, 4, 4, fun i => if i < 4 then W4 k i else 0, rfl, Nat.le_refl _, ⟨Nat.le_refl _, by unfold maxLen; omega, fun i => ?_, fun i hi => if_neg (by omega), Or.inr ⟨g, 0, rfl, hg, fun i hi => ?_⟩⟩, ?_⟩
  · dsimp only
    split
    · exact W4_words k i
    · exact ⟨Int.le_refl _, by decide⟩
  · have : i = 0 ∨ i = 1 ∨ i = 2 ∨ i = 3 := by omega
    rcases this with rfl | rfl | rfl | rfl
    · exact h0
    · exact h1
    · exact h2
    · exact h3
  · have e := W4_val4 hk
    rw [← e]
    simp [val]
attribute [local irreducible] W4 Nz Nt NT NV
set_option maxHeartbeats 1000000 in
theorem rnat_v (k : Nat) (w : World) (hk : k < 2 ^ 256) :
    Calls Tryz.prog 8 #[A4 k] w fun r w' => ∃ v, r = .returned v ∧ NT 4 k v w' ∧ Below w.heap.size w w' := by
  have hn0 : Nt 4 k (.slice (some ⟨w.heap.size, 0, none⟩) 4 4) (w.alloc (.cells #[.int .u64 (W4 k 0), .int .u64 (W4 k 1), .int .u64 (W4 k 2), .int .u64 (W4 k 3)] 24)) := nt_at0 hk (by simp) (by go_simp) (by go_simp) (by go_simp) (by go_simp)
  have c49 := rtrim_nt (by decide) hn0
  have hb0 := below1 w (.cells #[.int .u64 (W4 k 0), .int .u64 (W4 k 1), .int .u64 (W4 k 2), .int .u64 (W4 k 3)] 24)
  clear hn0
  unfold A4
  go_enter Tryz.func8, Tryz.ntmps8
  go_wp2_with (go_at_call 19; refine c49.mono ?_; rintro r w1 ⟨v, rfl, hv, hb1⟩)
  go_ret
  exact ⟨v, rfl, hv, bnx hb0 hb1⟩
section
variable {a : Act} {w : World} {K : Act → World → Prop} {Q : Exit → Act → World → Prop} {d p q : Nat} {ty : TypeId} {pos : String} {after : Array Edge} {gd : Option (Nat × Bool)}
end
section
variable {a : Act} {w : World} {K : Act → World → Prop} {Q : Exit → Act → World → Prop} {d p q p2 p3 p4 : Nat} {ty : TypeId} {pos : String} {after : Array Edge} {gd : Option (Nat × Bool)}
end
end Go.Proofs.YtpfnfaekgaipjaaGreatDoor

namespace Go.Proofs.YtpfnfaekgaipjaaGreatDoor
open Go.RowKit

theorem NT.head {K V : Nat} {v : Value} {w : World} (h : NT K V v w) (hV : V ≠ 0) : ∃ g k cap z0, v = .slice (some ⟨g, 0, none⟩) k cap ∧ 0 < k ∧ k ≤ K ∧ g < w.heap.size ∧ w.cell? ⟨g, 0, none⟩ = some (.int .u64 z0) ∧ 0 ≤ z0 ∧ z0 ≤ 18446744073709551615 ∧ z0 % 2 = ((V % 2 : Nat) : Int) := by
  have hz := h.zero
  obtain ⟨g, k, cap, z, rfl, hk, ⟨n1, n2, n3, n4, n5⟩, hv, hs⟩ := h
  obtain ⟨g', k', cap', e, _, hz'⟩ := hz
  cases e
  have hk0 : k ≠ 0 := fun e => hV (hz'.1 e)
  rcases n5 with ⟨n5, _⟩ | ⟨b, off, e, hb, hc⟩
  · cases n5
  · cases e
    have hc0 := hc 0 (by omega)
    have hw := n3 0
    have hp := val_odd (by omega : 0 < k) hv
    exact ⟨g, k, cap, z 0, rfl, by omega, hk, hb, hc0, hw.1, hw.2, by omega⟩
attribute [local irreducible] W4 Nz Nt NT NV
end Go.Proofs.YtpfnfaekgaipjaaGreatDoor

namespace Go.Proofs.YtpfnfaekgaipjaaGreatDoor
open Go.RowKit

theorem dV_snoc {l : List UInt8} {c : UInt8} (hl : l.all dg = true) (hc : dg c = true) : dV (l ++ [c]) = 10 * dV l + (c.toNat - 48) := by
  have hall : (l ++ [c]).all dg = true := by rw [List.all_append, hl]; simp [hc]
  have h1 := (dV_lt hall).2
  have h2 := (dV_lt hl).2
  have hcd : 48 ≤ c.toNat ∧ c.toNat ≤ 57 := of_decide_eq_true hc
  have hA := numV_app (s := B (l ++ [c])) (u := B [c]) l.length 1 (fun i hi => by
    rw [sb_by, sb_by, by_app_at])
  have hC := numV_app (s := B (l ++ [c])) (u := B l) 0 l.length (fun i hi => by
    rw [sb_by, sb_by, Nat.zero_add]
    unfold by_
    have hi2 : i < (l ++ [c]).length := by rw [List.length_append]; omega
    rw [dif_pos hi, dif_pos hi2, List.getElem_append_left hi])
  have e0 : numV (B (l ++ [c])) 0 = 0 := rfl
  have e1 : numV (B [c]) 1 = (c.toNat : Int) - 48 := by
    have : numV (B [c]) 1 = numV (B [c]) 0 * 10 + (sb (B [c]) 0 - 48) := rfl
    rw [this, sb_by, by_zero]
    have : numV (B [c]) 0 = 0 := rfl
    omega
  rw [Nat.zero_add, e0, Int.zero_mul, Int.zero_add] at hC
  rw [B_size] at h1 h2
  rw [show (l ++ [c]).length = l.length + 1 by simp, hA, hC, e1, ← h2] at h1
  omega
theorem dg_uniq : ∀ (n : Nat) (l l' : List UInt8), l.length = n → l'.length = n → l.all dg = true → l'.all dg = true → dV l = dV l' → l = l'
  | 0, l, l', h, h', _, _, _ => by rw [List.length_eq_zero_iff.1 h, List.length_eq_zero_iff.1 h']
  | n + 1, l, l', h, h', hd, hd', hv => by
    rcases List.eq_nil_or_concat l with rfl | ⟨m, c, rfl⟩
    · cases h
    · rcases List.eq_nil_or_concat l' with rfl | ⟨m', c', rfl⟩
      · cases h'
      · rw [List.concat_eq_append] at *
        rw [List.concat_eq_append] at *
        rw [List.all_append] at hd hd'
        simp at hd hd'
        have hm : m.all dg = true := List.all_eq_true.2 hd.1
        have hm' : m'.all dg = true := List.all_eq_true.2 hd'.1
        rw [dV_snoc hm hd.2, dV_snoc hm' hd'.2] at hv
        have c1 : 48 ≤ c.toNat ∧ c.toNat ≤ 57 := of_decide_eq_true hd.2
        have c2 : 48 ≤ c'.toNat ∧ c'.toNat ≤ 57 := of_decide_eq_true hd'.2
        have e1 : dV m = dV m' := by omega
        have e2 : c = c' := UInt8.toNat_inj.1 (by omega)
        rw [dg_uniq n m m' (by simp at h; exact h) (by simp at h'; exact h') hm hm' e1, e2]
theorem gd_uniq {l l' : List UInt8} (h : gdD l) (h' : gdD l') (hv : dV l = dV l') : l = l' := by
  rcases h with rfl | ⟨h1, h2⟩
  · rcases h' with rfl | ⟨h1', h2'⟩
    · rfl
    · unfold isd at h1'
      simp at h1'
      have := dV_ge (List.all_eq_true.2 h1'.1) h2' h1'.2
      rw [← hv, dV_nil] at this
      have := Nat.pow_pos (n := l'.length - 1) (by decide : 0 < 10)
      omega
  · rcases h' with rfl | ⟨h1', h2'⟩
    · unfold isd at h1
      simp at h1
      have := dV_ge (List.all_eq_true.2 h1.1) h2 h1.2
      rw [hv, dV_nil] at this
      have := Nat.pow_pos (n := l.length - 1) (by decide : 0 < 10)
      omega
    · unfold isd at h1 h1'
      simp at h1 h1'
      have a1 := List.all_eq_true.2 h1.1
      have a2 := List.all_eq_true.2 h1'.1
      have g1 := dV_ge a1 h2 h1.2
      have g2 := dV_ge a2 h2' h1'.2
      have l1 := (dV_lt a1).1
      have l2 := (dV_lt a2).1
      have p1 : 0 < l.length := List.length_pos_iff.2 h1.2
      have p2 : 0 < l'.length := List.length_pos_iff.2 h1'.2
      have hlen : l.length = l'.length := by
        rcases Nat.lt_trichotomy l.length l'.length with h | h | h
        · have := Nat.pow_le_pow_right (n := 10) (by decide) (show l.length ≤ l'.length - 1 by omega)
          omega
        · exact h
        · have := Nat.pow_le_pow_right (n := 10) (by decide) (show l'.length ≤ l.length - 1 by omega)
          omega
      exact dg_uniq _ l l' hlen rfl a1 a2 hv
end Go.Proofs.YtpfnfaekgaipjaaGreatDoor

namespace Go.Proofs.YtpfnfaekgaipjaaGreatDoor
open Go.RowKit

theorem un_isD {n : Int} {B : Nat} (h : goodN n B) : isD (fN n) (leastN n) (mostN n) (unD n B) := by
  have hF := bin_fm h.1
  obtain ⟨S, E, F, hS, hE, hFr, hB⟩ := fields_in h.2
  have hu : unD n B = mean (fN n) (eN n) (leastN n) S E F := by
    unfold unD; rw [if_pos h, hB, unp_mean _ hS hE hFr]
  rw [hu]
  exact (mean_isD hF hS hE hFr).1
/-- a number that has digits -/
def finP (n : Int) (V : Nat) : Prop := goodN n V ∧ (unD n V).c = 1 ∧ (unD n V).k ≠ 0
theorem fin_facts {n : Int} {V : Nat} (h : finP n V) : binN n ∧ (unD n V).k < 2 ^ 256 ∧ -16990 ≤ (unD n V).x ∧ (unD n V).x ≤ 16990 ∧ isD (fN n) (leastN n) (mostN n) (unD n V) := by
  obtain ⟨h1, h2, h3⟩ := h
  have hb := h1.1
  have hd := un_isD h1
  have hf := (bin_fm hb).f240
  rcases hd with ⟨e1, e2, e3, e4, e5, e6⟩ | ⟨e1, _⟩ | ⟨e1, _⟩
  · have hx := bin_x hb e4 e5
    refine ⟨hb, Nat.lt_of_lt_of_le e3 (Nat.pow_le_pow_right (by decide) (by omega)), hx.1, hx.2, Or.inl ⟨e1, e2, e3, e4, e5, e6⟩⟩
  · omega
  · omega
end Go.Proofs.YtpfnfaekgaipjaaGreatDoor

namespace Go.Proofs.YtpfnfaekgaipjaaGreatDoor
open Go.RowKit

/-- a number's text, but for its sign -/
theorem itoa_brief {e : Int} (he : -100000 ≤ e ∧ e ≤ 100000) : (Lib.itoa e).length ≤ 21 := by
  have := Lib.itoa_length_le e (by omega) (by omega)
  omega
def unT (D : List UInt8) (e : Int) : List UInt8 := ((D.take 1 ++ if 1 < D.length then [46] ++ D.drop 1 else []) ++ [101]) ++ Lib.itoa e
theorem unT_brief {D : List UInt8} {e : Int} (he : -100000 ≤ e ∧ e ≤ 100000) : (unT D e).length ≤ D.length + 25 := by
  have := itoa_brief he
  unfold unT
  rw [List.length_append, List.length_append, List.length_append, List.length_take]
  split
  · simp; omega
  · simp; omega
theorem itoa_short {e : Int} (he : -100000 ≤ e ∧ e ≤ 100000) : (Lib.itoa e).length ≤ 100 := by
  have := Lib.itoa_length_le e (by omega) (by omega)
  omega
attribute [local irreducible] W4
end Go.Proofs.YtpfnfaekgaipjaaGreatDoor

namespace Go.Proofs.YtpfnfaekgaipjaaGreatDoor
open Go.RowKit

def sgL (s : Bool) : List UInt8 := if s then [45] else []
attribute [local irreducible] W4
set_option maxHeartbeats 4000000 in
theorem lay_f1 (D : List UInt8) (e : Int) (w : World) (hT10 : Tb10 w) (he : -90000 ≤ e ∧ e ≤ 90000) (hD : D.length = 1) :
    Calls Tryz.prog 14 #[.bool false, .string (B D), .int .i64 e] w fun r w' => r = .returned (.string (B (sgL false ++ unT D (e + D.length - 1)))) ∧ Below w.heap.size w w' := by
  have c53 := fun W (h : Tb10 W) => itoa_any (e + D.length - 1) W (by omega) h
  have hi := itoa_short (e := e + D.length - 1) (by omega)
  have hz : (B D).size = 1 := by rw [B_size, hD]
  have HU : Hid ((sgL false) ++ unT D (e + D.length - 1) = ((([] : List UInt8) ++ D.take 1) ++ [101]) ++ Lib.itoa (e + D.length - 1)) := by
    show _ = _
    unfold unT
    rw [if_neg (show ¬ 1 < D.length by omega)]
    simp [sgL, List.append_assoc]
  generalize (sgL false) ++ unT D (e + D.length - 1) = TT at HU ⊢
  have htl := B_toList
  have ht : (B D).extract 0 1 = B (D.take 1) := by rw [B_ext, List.drop_zero]
  have y2 : (B (D.take 1)).size = 1 := by rw [B_size, List.length_take]; omega
  have p0 : (⟨#[]⟩ : ByteArray) ++ B (D.take 1) = B (([] : List UInt8) ++ D.take 1) := B_app ([] : List UInt8) _
  have z0 : (B (([] : List UInt8) ++ D.take 1)).size = 1 := by rw [B_size] at y2 ⊢; rw [List.length_append, y2]; rfl
  generalize hL2 : ([] : List UInt8) ++ D.take 1 = L2 at *
  have z2 := z0
  have p3 : B L2 ++ (⟨#[101]⟩ : ByteArray) = B (L2 ++ [101]) := B_app _ [101]
  have z3 : (B (L2 ++ [101])).size = 2 := by rw [B_size] at z2 ⊢; rw [List.length_append, z2]; rfl
  generalize hL3 : L2 ++ [101] = L3 at *
  have p4 : B L3 ++ B (Lib.itoa (e + D.length - 1)) = B (L3 ++ Lib.itoa (e + D.length - 1)) := B_app _ _
  obtain ⟨il, hil⟩ : ∃ il, (Lib.itoa (e + D.length - 1)).length = il := ⟨_, rfl⟩
  have z4 : (B (Lib.itoa (e + D.length - 1))).size = il := by rw [B_size]; exact hil
  have hil2 : il ≤ 100 := by omega
  clear hi hil
  generalize Lib.itoa (e + D.length - 1) = I at *
  generalize hL4 : L3 ++ I = L4 at *
  generalize hA : D.take 1 = A0 at *
  generalize hB : D.drop 1 = B0 at *
  clear hL4 hL3 hL2 hA hB
  rw [hD] at c53
  have hee : e + ((1 : Nat) : Int) - 1 = e := by omega
  rw [hee] at c53
  have c53' : ∀ W (y : Int), y = e → Tb10 W → Calls Tryz.prog 26 #[.int .i64 y] W fun r w' => r = .returned (.string (B I)) ∧ Below W.heap.size W w' := by rintro W y rfl h; exact c53 W h
  clear hD hee c53
  go_enter Tryz.func14, Tryz.ntmps14
  go_wp2_with (go_at_call 26; refine (c53' _ _ (by omega) (hT10.next bgo)).mono ?_; rintro r w3 ⟨rfl, hb3⟩)
  go_ret
  exact ⟨by rw [HU.out]; rfl, hb3⟩
set_option maxHeartbeats 4000000 in
theorem lay_fm (D : List UInt8) (e : Int) (w : World) (hT10 : Tb10 w) (he : -90000 ≤ e ∧ e ≤ 90000) (hD : 1 < D.length ∧ D.length ≤ 4000) :
    Calls Tryz.prog 14 #[.bool false, .string (B D), .int .i64 e] w fun r w' => r = .returned (.string (B (sgL false ++ unT D (e + D.length - 1)))) ∧ Below w.heap.size w w' := by
  obtain ⟨m, hm⟩ : ∃ m, D.length = m + 2 := ⟨D.length - 2, by omega⟩
  have hm2 : m ≤ 4000 := by omega
  have c53 := fun W (h : Tb10 W) => itoa_any (e + D.length - 1) W (by omega) h
  have hi := itoa_short (e := e + D.length - 1) (by omega)
  have hz : (B D).size = m + 2 := by rw [B_size, hm]
  have HU : Hid ((sgL false) ++ unT D (e + D.length - 1) = ((((([] : List UInt8) ++ D.take 1) ++ [46]) ++ D.drop 1) ++ [101]) ++ Lib.itoa (e + D.length - 1)) := by
    show _ = _
    unfold unT
    rw [if_pos hD.1]
    simp [sgL, List.append_assoc]
  have HS : Hid (e + ((m + 2 : Nat) : Int) - 1 = e + D.length - 1) := by show _ = _; rw [hm]
  generalize (sgL false) ++ unT D (e + D.length - 1) = TT at HU ⊢
  have htl := B_toList
  have ht : (B D).extract 0 1 = B (D.take 1) := by rw [B_ext, List.drop_zero]
  have y2 : (B (D.take 1)).size = 1 := by rw [B_size, List.length_take]; omega
  have p0 : (⟨#[]⟩ : ByteArray) ++ B (D.take 1) = B (([] : List UInt8) ++ D.take 1) := B_app ([] : List UInt8) _
  have z0 : (B (([] : List UInt8) ++ D.take 1)).size = 1 := by rw [B_size] at y2 ⊢; rw [List.length_append, y2]; rfl
  have hd : (B D).extract 1 (m + 2) = B (D.drop 1) := by have := B_drop D 1; rw [hz] at this; exact this
  have y0 : (B (D.drop 1)).size = m + 1 := by rw [B_size, List.length_drop, hm]; omega
  generalize hL0 : ([] : List UInt8) ++ D.take 1 = L0 at *
  have p1 : B L0 ++ (⟨#[46]⟩ : ByteArray) = B (L0 ++ [46]) := B_app _ [46]
  have z1 : (B (L0 ++ [46])).size = 2 := by rw [B_size] at z0 ⊢; rw [List.length_append, z0]; rfl
  generalize hL1 : L0 ++ [46] = L1 at *
  have p2 : B L1 ++ B (D.drop 1) = B (L1 ++ D.drop 1) := B_app _ _
  have z2 : (B (L1 ++ D.drop 1)).size = m + 3 := by rw [B_size] at z1 y0 ⊢; rw [List.length_append, z1, y0]; omega
  generalize hL2 : L1 ++ D.drop 1 = L2 at *
  have p3 : B L2 ++ (⟨#[101]⟩ : ByteArray) = B (L2 ++ [101]) := B_app _ [101]
  have z3 : (B (L2 ++ [101])).size = m + 4 := by rw [B_size] at z2 ⊢; rw [List.length_append, z2]; rfl
  generalize hL3 : L2 ++ [101] = L3 at *
  have p4 : B L3 ++ B (Lib.itoa (e + D.length - 1)) = B (L3 ++ Lib.itoa (e + D.length - 1)) := B_app _ _
  obtain ⟨il, hil⟩ : ∃ il, (Lib.itoa (e + D.length - 1)).length = il := ⟨_, rfl⟩
  have z4 : (B (Lib.itoa (e + D.length - 1))).size = il := by rw [B_size]; exact hil
  have hil2 : il ≤ 100 := by omega
  clear hi hil
  generalize Lib.itoa (e + D.length - 1) = I at *
  generalize hL4 : L3 ++ I = L4 at *
  generalize hA : D.take 1 = A0 at *
  generalize hB : D.drop 1 = B0 at *
  clear hL4 hL3 hL2 hA hB hL1 hL0
  rw [hm] at c53
  have hee : e + ((m + 2 : Nat) : Int) - 1 = e + m + 1 := by omega
  rw [hee] at c53
  have c53' : ∀ W (y : Int), y = e + m + 1 → Tb10 W → Calls Tryz.prog 26 #[.int .i64 y] W fun r w' => r = .returned (.string (B I)) ∧ Below W.heap.size W w' := by rintro W y rfl h; exact c53 W h
  clear hm hD HS hee c53
  go_enter Tryz.func14, Tryz.ntmps14
  go_wp2_with (go_at_call 26; refine (c53' _ _ (by omega) (hT10.next bgo)).mono ?_; rintro r w3 ⟨rfl, hb3⟩)
  go_ret
  exact ⟨by rw [HU.out]; rfl, hb3⟩
set_option maxHeartbeats 4000000 in
theorem lay_t1 (D : List UInt8) (e : Int) (w : World) (hT10 : Tb10 w) (he : -90000 ≤ e ∧ e ≤ 90000) (hD : D.length = 1) :
    Calls Tryz.prog 14 #[.bool true, .string (B D), .int .i64 e] w fun r w' => r = .returned (.string (B (sgL true ++ unT D (e + D.length - 1)))) ∧ Below w.heap.size w w' := by
  have c53 := fun W (h : Tb10 W) => itoa_any (e + D.length - 1) W (by omega) h
  have hi := itoa_short (e := e + D.length - 1) (by omega)
  have hz : (B D).size = 1 := by rw [B_size, hD]
  have HU : Hid ((sgL true) ++ unT D (e + D.length - 1) = (([45] ++ D.take 1) ++ [101]) ++ Lib.itoa (e + D.length - 1)) := by
    show _ = _
    unfold unT
    rw [if_neg (show ¬ 1 < D.length by omega)]
    simp [sgL, List.append_assoc]
  generalize (sgL true) ++ unT D (e + D.length - 1) = TT at HU ⊢
  have htl := B_toList
  have ht : (B D).extract 0 1 = B (D.take 1) := by rw [B_ext, List.drop_zero]
  have y2 : (B (D.take 1)).size = 1 := by rw [B_size, List.length_take]; omega
  have p0 : (⟨#[45]⟩ : ByteArray) ++ B (D.take 1) = B ([45] ++ D.take 1) := B_app [45] _
  have z0 : (B ([45] ++ D.take 1)).size = 2 := by rw [B_size] at y2 ⊢; rw [List.length_append, y2]; rfl
  generalize hL2 : [45] ++ D.take 1 = L2 at *
  have z2 := z0
  have p3 : B L2 ++ (⟨#[101]⟩ : ByteArray) = B (L2 ++ [101]) := B_app _ [101]
  have z3 : (B (L2 ++ [101])).size = 3 := by rw [B_size] at z2 ⊢; rw [List.length_append, z2]; rfl
  generalize hL3 : L2 ++ [101] = L3 at *
  have p4 : B L3 ++ B (Lib.itoa (e + D.length - 1)) = B (L3 ++ Lib.itoa (e + D.length - 1)) := B_app _ _
  obtain ⟨il, hil⟩ : ∃ il, (Lib.itoa (e + D.length - 1)).length = il := ⟨_, rfl⟩
  have z4 : (B (Lib.itoa (e + D.length - 1))).size = il := by rw [B_size]; exact hil
  have hil2 : il ≤ 100 := by omega
  clear hi hil
  generalize Lib.itoa (e + D.length - 1) = I at *
  generalize hL4 : L3 ++ I = L4 at *
  generalize hA : D.take 1 = A0 at *
  generalize hB : D.drop 1 = B0 at *
  clear hL4 hL3 hL2 hA hB
  rw [hD] at c53
  have hee : e + ((1 : Nat) : Int) - 1 = e := by omega
  rw [hee] at c53
  have c53' : ∀ W (y : Int), y = e → Tb10 W → Calls Tryz.prog 26 #[.int .i64 y] W fun r w' => r = .returned (.string (B I)) ∧ Below W.heap.size W w' := by rintro W y rfl h; exact c53 W h
  clear hD hee c53
  go_enter Tryz.func14, Tryz.ntmps14
  go_wp2_with (go_at_call 26; refine (c53' _ _ (by omega) (hT10.next bgo)).mono ?_; rintro r w3 ⟨rfl, hb3⟩)
  go_ret
  exact ⟨by rw [HU.out]; rfl, hb3⟩
set_option maxHeartbeats 4000000 in
theorem lay_tm (D : List UInt8) (e : Int) (w : World) (hT10 : Tb10 w) (he : -90000 ≤ e ∧ e ≤ 90000) (hD : 1 < D.length ∧ D.length ≤ 4000) :
    Calls Tryz.prog 14 #[.bool true, .string (B D), .int .i64 e] w fun r w' => r = .returned (.string (B (sgL true ++ unT D (e + D.length - 1)))) ∧ Below w.heap.size w w' := by
  obtain ⟨m, hm⟩ : ∃ m, D.length = m + 2 := ⟨D.length - 2, by omega⟩
  have hm2 : m ≤ 4000 := by omega
  have c53 := fun W (h : Tb10 W) => itoa_any (e + D.length - 1) W (by omega) h
  have hi := itoa_short (e := e + D.length - 1) (by omega)
  have hz : (B D).size = m + 2 := by rw [B_size, hm]
  have HU : Hid ((sgL true) ++ unT D (e + D.length - 1) = (((([45] ++ D.take 1) ++ [46]) ++ D.drop 1) ++ [101]) ++ Lib.itoa (e + D.length - 1)) := by
    show _ = _
    unfold unT
    rw [if_pos hD.1]
    simp [sgL, List.append_assoc]
  have HS : Hid (e + ((m + 2 : Nat) : Int) - 1 = e + D.length - 1) := by show _ = _; rw [hm]
  generalize (sgL true) ++ unT D (e + D.length - 1) = TT at HU ⊢
  have htl := B_toList
  have ht : (B D).extract 0 1 = B (D.take 1) := by rw [B_ext, List.drop_zero]
  have y2 : (B (D.take 1)).size = 1 := by rw [B_size, List.length_take]; omega
  have p0 : (⟨#[45]⟩ : ByteArray) ++ B (D.take 1) = B ([45] ++ D.take 1) := B_app [45] _
  have z0 : (B ([45] ++ D.take 1)).size = 2 := by rw [B_size] at y2 ⊢; rw [List.length_append, y2]; rfl
  have hd : (B D).extract 1 (m + 2) = B (D.drop 1) := by have := B_drop D 1; rw [hz] at this; exact this
  have y0 : (B (D.drop 1)).size = m + 1 := by rw [B_size, List.length_drop, hm]; omega
  generalize hL0 : [45] ++ D.take 1 = L0 at *
  have p1 : B L0 ++ (⟨#[46]⟩ : ByteArray) = B (L0 ++ [46]) := B_app _ [46]
  have z1 : (B (L0 ++ [46])).size = 3 := by rw [B_size] at z0 ⊢; rw [List.length_append, z0]; rfl
  generalize hL1 : L0 ++ [46] = L1 at *
  have p2 : B L1 ++ B (D.drop 1) = B (L1 ++ D.drop 1) := B_app _ _
  have z2 : (B (L1 ++ D.drop 1)).size = m + 4 := by rw [B_size] at z1 y0 ⊢; rw [List.length_append, z1, y0]; omega
  generalize hL2 : L1 ++ D.drop 1 = L2 at *
  have p3 : B L2 ++ (⟨#[101]⟩ : ByteArray) = B (L2 ++ [101]) := B_app _ [101]
  have z3 : (B (L2 ++ [101])).size = m + 5 := by rw [B_size] at z2 ⊢; rw [List.length_append, z2]; rfl
  generalize hL3 : L2 ++ [101] = L3 at *
  have p4 : B L3 ++ B (Lib.itoa (e + D.length - 1)) = B (L3 ++ Lib.itoa (e + D.length - 1)) := B_app _ _
  obtain ⟨il, hil⟩ : ∃ il, (Lib.itoa (e + D.length - 1)).length = il := ⟨_, rfl⟩
  have z4 : (B (Lib.itoa (e + D.length - 1))).size = il := by rw [B_size]; exact hil
  have hil2 : il ≤ 100 := by omega
  clear hi hil
  generalize Lib.itoa (e + D.length - 1) = I at *
  generalize hL4 : L3 ++ I = L4 at *
  generalize hA : D.take 1 = A0 at *
  generalize hB : D.drop 1 = B0 at *
  clear hL4 hL3 hL2 hA hB hL1 hL0
  rw [hm] at c53
  have hee : e + ((m + 2 : Nat) : Int) - 1 = e + m + 1 := by omega
  rw [hee] at c53
  have c53' : ∀ W (y : Int), y = e + m + 1 → Tb10 W → Calls Tryz.prog 26 #[.int .i64 y] W fun r w' => r = .returned (.string (B I)) ∧ Below W.heap.size W w' := by rintro W y rfl h; exact c53 W h
  clear hm hD HS hee c53
  go_enter Tryz.func14, Tryz.ntmps14
  go_wp2_with (go_at_call 26; refine (c53' _ _ (by omega) (hT10.next bgo)).mono ?_; rintro r w3 ⟨rfl, hb3⟩)
  go_ret
  exact ⟨by rw [HU.out]; rfl, hb3⟩
theorem lay_v (s : Bool) (D : List UInt8) (e : Int) (w : World) (hT10 : Tb10 w) (he : -90000 ≤ e ∧ e ≤ 90000) (hD : 1 ≤ D.length ∧ D.length ≤ 4000) :
    Calls Tryz.prog 14 #[.bool s, .string (B D), .int .i64 e] w fun r w' => r = .returned (.string (B (sgL s ++ unT D (e + D.length - 1)))) ∧ Below w.heap.size w w' := by
  by_cases h1 : D.length = 1
  · cases s
    · exact lay_f1 D e w hT10 he h1
    · exact lay_t1 D e w hT10 he h1
  · cases s
    · exact lay_fm D e w hT10 he (by omega)
    · exact lay_tm D e w hT10 he (by omega)
end Go.Proofs.YtpfnfaekgaipjaaGreatDoor

namespace Go.Proofs.YtpfnfaekgaipjaaGreatDoor
open Go.RowKit

/-- a payload's digits -/
def dcL (k : Nat) : List UInt8 := if k = 0 then [] else dcD (k : Int) 660
theorem k660 {k : Nat} (hk : k < 2 ^ 256) : (k : Int) < 10 ^ 660 := by
  have h : (2 : Nat) ^ 256 ≤ 10 ^ 100 := by decide
  have h2 : (10 : Int) ^ 100 ≤ 10 ^ 660 := by decide +kernel
  have h3 : ((10 ^ 100 : Nat) : Int) = (10 : Int) ^ 100 := by decide
  omega
theorem dcL_facts {k : Nat} (hk : k < 2 ^ 256) : gdD (dcL k) ∧ dV (dcL k) = k ∧ (dcL k).length ≤ 660 := by
  unfold dcL
  by_cases h : k = 0
  · rw [if_pos h]; exact ⟨Or.inl rfl, by rw [h, dV_nil], by decide⟩
  · rw [if_neg h]
    obtain ⟨h1, h2, h3⟩ := dcD_facts (V := (k : Int)) (L := 660) (by omega) (k660 hk)
    exact ⟨h1, by omega, h3⟩
theorem dec_v {K k : Nat} {v : Value} {w : World} (hK : K ≤ 30) (hk : k < 2 ^ 256) (h : Nt K k v w) : Calls Tryz.prog 12 #[v] w fun r w' => r = .returned (.string (B (dcL k))) ∧ Below w.heap.size w w' := by
  obtain ⟨a, n, c, z, rfl, hn, hN, hz⟩ := h
  obtain ⟨D, d1, d2, d3, d4⟩ := rdec8 (by omega) hN
  obtain ⟨f1, f2, _⟩ := dcL_facts hk
  have : D = dcL k := gd_uniq d1 f1 (by omega)
  subst this
  exact d4 w (Below.refl _ _)
attribute [local irreducible] W4 Nt
end Go.Proofs.YtpfnfaekgaipjaaGreatDoor

namespace Go.Proofs.YtpfnfaekgaipjaaGreatDoor
open Go.RowKit

/-- an exponent that is always written -/
theorem ex_any (e : Int) (h : -1000000000 ≤ e ∧ e ≤ 1000000000) : exB (101 :: Lib.itoa e) = true ∧ exI (101 :: Lib.itoa e) = e ∧ Lib.hasPrefix (101 :: Lib.itoa e) [46] = false ∧ dgs (101 :: Lib.itoa e) = [] ∧ rst (101 :: Lib.itoa e) = 101 :: Lib.itoa e := by
  by_cases h0 : e = 0
  · subst h0
    have e0 : Lib.itoa 0 = [48] := by kernel_rfl
    rw [e0]
    exact ⟨by decide, by decide, by decide, by decide, by decide⟩
  · have := exT_cut e h
    unfold exT at this
    rw [if_neg h0] at this
    exact this
theorem clamp_id {e : Int} (h : -1000000000 ≤ e ∧ e ≤ 1000000000) : clampE e = e := by unfold clampE; omega
/-- the text of digits with an exponent -/
theorem un_cut (s : Bool) {c : UInt8} {r : List UInt8} {e : Int} (hc : dg c = true) (hc0 : (c.toNat : Int) ≠ 48) (hr : r.all dg = true) (hl : r.length ≤ 3950) (he : -100000 ≤ e ∧ e ≤ 100000) :
    cutP (sgL s ++ unT (c :: r) e) = some ⟨1, s, false, c :: r, e - r.length⟩ := by
  have hlen : (unT (c :: r) e).length ≤ r.length + 26 := by have := unT_brief (D := c :: r) he; rw [List.length_cons] at this; omega
  obtain ⟨x1, x2, x3, x4, x5⟩ := ex_any e (by omega)
  have hcn := dg_nat hc
  have hall : [c].all dg = true := by simp [hc]
  have hbar : bar (c :: r) = c :: r := by rw [bar_cons, if_neg hc0]
  have key : finB (unT (c :: r) e) = true ∧ finD (unT (c :: r) e) = c :: r ∧ finE (unT (c :: r) e) = e - r.length ∧ ∃ t, unT (c :: r) e = c :: t := by
    cases hr0 : r with
    | nil =>
      have hu : unT [c] e = [c] ++ (101 :: Lib.itoa e) := rfl
      rw [hu]
      obtain ⟨d1, d2⟩ := dgs_app2 (m := 101 :: Lib.itoa e) hall x4
      have f1 : frac ([c] ++ 101 :: Lib.itoa e) = [] := by unfold frac; rw [d2, x3]; rfl
      have f2 : behind ([c] ++ 101 :: Lib.itoa e) = 101 :: Lib.itoa e := by unfold behind; rw [d2, x3]; rfl
      refine ⟨?_, ?_, ?_, _, rfl⟩
      · unfold finB; rw [f1, f2, x1, d1]; rfl
      · unfold finD; rw [f1, d1]
        rw [hr0] at hbar
        exact hbar
      · unfold finE; rw [f1, f2, x2]
        exact clamp_id (by simp; omega)
    | cons a t =>
      rw [← hr0]
      have hu : unT (c :: r) e = [c] ++ 46 :: (r ++ (101 :: Lib.itoa e)) := by
        unfold unT
        rw [hr0]
        simp
      rw [hu]
      obtain ⟨d1, d2⟩ := dgs_app2 (m := 46 :: (r ++ (101 :: Lib.itoa e))) hall rfl
      obtain ⟨d3, d4⟩ := dgs_app2 (m := 101 :: Lib.itoa e) hr x4
      have e1 : Lib.hasPrefix (46 :: (r ++ (101 :: Lib.itoa e))) [46] = true := rfl
      have e2 : Lib.trimPrefix (46 :: (r ++ (101 :: Lib.itoa e))) [46] = r ++ (101 :: Lib.itoa e) := rfl
      have f1 : frac ([c] ++ 46 :: (r ++ (101 :: Lib.itoa e))) = r := by unfold frac; rw [d2, e1, e2, d3]; rfl
      have f2 : behind ([c] ++ 46 :: (r ++ (101 :: Lib.itoa e))) = 101 :: Lib.itoa e := by unfold behind; rw [d2, e1, e2, d4]; rfl
      refine ⟨?_, ?_, ?_, _, rfl⟩
      · unfold finB; rw [f1, f2, x1, d1]; rfl
      · unfold finD; rw [f1, d1]
        exact hbar
      · unfold finE; rw [f1, f2, x2]
        exact clamp_id (by omega)
  obtain ⟨k1, k2, k3, t, k4⟩ := key
  unfold cutP
  have hs : (sgL s ++ unT (c :: r) e).length ≤ 4000 := by
    rw [List.length_append]
    have : (sgL s).length ≤ 1 := by cases s <;> decide
    omega
  rw [if_neg (by omega)]
  have hsg : gsgB (sgL s ++ unT (c :: r) e) = s ∧ sgR (sgL s ++ unT (c :: r) e) = unT (c :: r) e := by
    rw [k4]
    exact sig_app s c t ⟨by omega, by omega⟩
  rw [hsg.1, hsg.2]
  unfold bodP
  rw [if_pos k1, k2, k3]
end Go.Proofs.YtpfnfaekgaipjaaGreatDoor

namespace Go.Proofs.YtpfnfaekgaipjaaGreatDoor

/-- a decimal number's text: what Read answers -/
theorem dec_cut (s : Bool) {D : List UInt8} {e ex : Int} (hg : gdD D) (h0 : D ≠ []) (hl : D.length ≤ 3950) (he : -50000 ≤ ex ∧ ex ≤ 50000) (hE : e = ex + D.length - 1) :
    cutP (sgL s ++ unT D e) = some ⟨1, s, false, D, ex⟩ := by
  cases D with
  | nil => exact absurd rfl h0
  | cons c r =>
    have ha := gdD_all hg
    rw [List.all_cons, Bool.and_eq_true] at ha
    have hc0 : (c.toNat : Int) ≠ 48 := by
      rcases hg with h | ⟨_, h⟩
      · cases h
      · rw [by_zero] at h; exact h
    rw [List.length_cons] at hl hE
    have := un_cut s (e := e) ha.1 hc0 ha.2 (by omega) (by omega)
    rw [this, hE]
    congr 2
    omega
end Go.Proofs.YtpfnfaekgaipjaaGreatDoor

namespace Go.Proofs.YtpfnfaekgaipjaaGreatDoor
open Go.RowKit

theorem p2k_10 (k : Nat) : (2 : Int) ^ k ≤ 10 ^ k := by
  have h := Nat.pow_le_pow_left (show 2 ≤ 10 by decide) k
  exact_mod_cast h
/-- the document's Decimal, of any number that is not too long: its digits -/
theorem dec_w (X : Nat) : ∃ D : List UInt8, gdD D ∧ dV D = X ∧ ∀ K v w, K ≤ 2000 → NT K X v w → Calls Tryz.prog 12 #[v] w fun r w' => r = .returned (.string (B D)) ∧ Below w.heap.size w w' := by
  by_cases h0 : X = 0
  · subst h0
    refine ⟨[], Or.inl rfl, rfl, fun K v w hK h => ?_⟩
    obtain ⟨g, n, c, z, rfl, hn, hN, hv, hs⟩ := h
    have hz : sizeL z n = 0 := by
      rcases Nat.eq_zero_or_pos (sizeL z n) with h | h
      · exact h
      · have := val_pos hN.2.2.1 _ h (sizeL_sizeL z n)
        rw [val_bare n, hv] at this
        omega
    exact rdec_zero _ n c z w (by omega) hN hz
  · have hX : (0 : Int) < X := by omega
    have hL : (X : Int) < 10 ^ bl X := by
      have h1 := (bl_bd h0).2.1
      have h2 := p2k_10 (bl X)
      have h3 : (X : Int) < 2 ^ bl X := by exact_mod_cast h1
      omega
    obtain ⟨d1, d2, d3⟩ := dcD_facts hX hL
    refine ⟨dcD X (bl X), d1, by omega, fun K v w hK h => ?_⟩
    obtain ⟨g, n, c, z, rfl, hn, hN, hv, hs⟩ := h
    have hz : 0 < sizeL z n := by
      rcases Nat.eq_zero_or_pos (sizeL z n) with h | h
      · have := val_bare (x := z) n
        rw [h] at this
        rw [hv] at this
        have e : val z 0 = 0 := rfl
        omega
      · exact h
    have hle := sizeL_le z n
    refine (rdec_any _ n c z w (by omega) hN (by omega) hz).mono fun e w' ⟨L, hL', he, hB⟩ => ⟨?_, hB⟩
    rw [hv] at hL' he
    rw [he, decL_rev hX hL', decL_more (Int.le_of_lt hX) hL' hL, ← decL_rev hX hL]
    show _ = Ending.returned (.string (B (dcD X (bl X))))
    unfold dcD
    rw [B_of]
theorem pow5_nv (m : Nat) (w : World) (hm : m ≤ 17000) : Calls Tryz.prog 11 #[.int .u64 5, .int .i64 (m : Int)] w fun r w' => ∃ v, r = .returned v ∧ NV 70000 (5 ^ m) v w' ∧ Below w.heap.size w w' := by
  refine (rpow_any 5 m w (by decide) hm).mono ?_
  rintro r w' ⟨g, k, cap, z, rfl, hk, hN, hv, hb⟩
  exact ⟨_, rfl, ⟨g, k, cap, z, rfl, by omega, hN, by rw [hv]; simp⟩, hb⟩
theorem read_w {n d : Int} {l : List UInt8} {p : Prt} (hb : binN n) (hk : knB d) (h : cutP l = some p) (hj : jnP p) (hl : l.length ≤ 10000) (W : World) (hT : Tab W) (hT10 : Tb10 W) :
    Calls Tryz.prog 13 #[.int .i64 n, .int .i64 d, .string (B l)] W fun r w' => r = .returned (.tuple #[A4 (mkV n d p), .int .i64 (mkF n d p), .int .i64 0]) ∧ Below W.heap.size W w' := by
  have c29 := fun W => cut_any l W (by omega)
  rw [(cutE_some h).1, (cutE_some h).2] at c29
  exact read_k n d l p _ _ _ _ _ _ W hT _ _ _ (fun W hT => rck_good n d W hT ⟨hb, hk⟩) c29 (fun W' hW' => make_v hb hk hj (cut_ex h) W' (hT.go hW') (hT10.next hW'))
/-- all digits of a number are rounded to it, in all directions -/
theorem exact_mk {n d : Int} (hb : binN n) {s : Bool} {x : Int} {k : Nat} (h : isD (fN n) (leastN n) (mostN n) ⟨1, s, false, x, k⟩) (h0 : k ≠ 0) {D : List UInt8} {X : Nat} {ex : Int} (hg : gdD D) (hX : dV D = X) (hl : D.length ≤ 3900)
    (hw : (0 ≤ x ∧ X = k * 2 ^ x.toNat ∧ ex = 0) ∨ (x < 0 ∧ X = k * 5 ^ (-x).toNat ∧ ex = x)) :
    mkV n d ⟨1, s, false, D, ex⟩ = pkV n ⟨1, s, false, x, k⟩ ∧ mkF n d ⟨1, s, false, D, ex⟩ = 0 := by
  have hlt := (dV_lt (gdD_all hg)).1
  have e1 : mkV n d ⟨1, s, false, D, ex⟩ = rdV n d s (tN (dV D) (pwE D.length ex)) (tD (pwE D.length ex)) (pwE D.length ex) := if_pos rfl
  have e2 : mkF n d ⟨1, s, false, D, ex⟩ = rdF n d s (tN (dV D) (pwE D.length ex)) (tD (pwE D.length ex)) (pwE D.length ex) := if_pos rfl
  rw [e1, e2, hX]
  rcases hw with ⟨hx, rfl, rfl⟩ | ⟨hx, rfl, rfl⟩
  · have hp : pwE D.length 0 = 0 := by unfold pwE; omega
    rw [hp]
    have t1 : tN (k * 2 ^ x.toNat) 0 = k * 2 ^ x.toNat := by simp [tN]
    have t2 : tD 0 = 1 * 2 ^ 0 := by simp [tD]
    rw [t1, t2]
    obtain ⟨r1, r2⟩ := rd_shift n d s k (D := 1) (by decide) x.toNat 0 0
    rw [r1, r2, show (0 : Int) + ((x.toNat : Int) - ((0 : Nat) : Int)) = x by omega]
    have := keep_eq d (b := 1) hb h (by decide)
    rw [Nat.mul_one] at this
    exact this
  · have hm : (-ex).toNat < 2 * D.length := by
      rcases Nat.lt_or_ge (-ex).toNat (2 * D.length) with h | h
      · exact h
      · exfalso
        have a1 : 5 ^ (2 * D.length) ≤ 5 ^ (-ex).toNat := Nat.pow_le_pow_right (by decide) h
        have a2 : 1 * 5 ^ (-ex).toNat ≤ k * 5 ^ (-ex).toNat := Nat.mul_le_mul_right _ (by omega)
        have a3 : 10 ^ D.length ≤ 5 ^ (2 * D.length) := by rw [Nat.pow_mul]; exact Nat.pow_le_pow_left (by decide) _
        omega
    have hp : pwE D.length ex = ex := by unfold pwE; omega
    rw [hp]
    have t1 : tN (k * 5 ^ (-ex).toNat) ex = k * 5 ^ (-ex).toNat := by
      unfold tN
      rw [show ex.toNat = 0 by omega]
      simp
    rw [t1]
    exact keep_eq d hb h (tD_ne ex)
theorem exact_read {n d : Int} (hb : binN n) (hk : knB d) {s : Bool} {x : Int} {k : Nat} (h : isD (fN n) (leastN n) (mostN n) ⟨1, s, false, x, k⟩) (h0 : k ≠ 0) (hxb : -17000 ≤ x ∧ x ≤ 17000) {D : List UInt8} {X : Nat} {ex : Int} (hg : gdD D) (hX : dV D = X) (hl : D.length ≤ 3900)
    (hw : (0 ≤ x ∧ X = k * 2 ^ x.toNat ∧ ex = 0) ∨ (x < 0 ∧ X = k * 5 ^ (-x).toNat ∧ ex = x)) :
    (∀ W, Tb10 W → Calls Tryz.prog 14 #[.bool s, .string (B D), .int .i64 ex] W fun r w' => r = .returned (.string (B (sgL s ++ unT D (ex + D.length - 1)))) ∧ Below W.heap.size W w') ∧
    (∀ W, Tab W → Tb10 W → Calls Tryz.prog 13 #[.int .i64 n, .int .i64 d, .string (B (sgL s ++ unT D (ex + D.length - 1)))] W fun r w' => r = .returned (.tuple #[A4 (pkV n ⟨1, s, false, x, k⟩), .int .i64 0, .int .i64 0]) ∧ Below W.heap.size W w') := by
  have hX0 : X ≠ 0 := by
    rcases hw with ⟨_, rfl, _⟩ | ⟨_, rfl, _⟩
    · exact Nat.mul_ne_zero h0 (Nat.ne_of_gt (Nat.two_pow_pos _))
    · exact Nat.mul_ne_zero h0 (Nat.ne_of_gt (Nat.pow_pos (by decide)))
  have hne : D ≠ [] := fun e => hX0 (by rw [← hX, e]; rfl)
  have hlen : 1 ≤ D.length := by
    rcases Nat.eq_zero_or_pos D.length with h | h
    · exact absurd (List.eq_nil_of_length_eq_zero h) hne
    · exact h
  have hex : -17000 ≤ ex ∧ ex ≤ 17000 := by rcases hw with ⟨_, _, rfl⟩ | ⟨_, _, rfl⟩ <;> omega
  obtain ⟨m1, m2⟩ := exact_mk (d := d) hb h h0 hg hX hl hw
  refine ⟨fun W hT10 => lay_v s D ex W hT10 (by omega) (by omega), fun W hT hT10 => ?_⟩
  have hc := dec_cut s (e := ex + D.length - 1) (ex := ex) hg hne (by omega) (by omega) rfl
  have hj : jnP ⟨1, s, false, D, ex⟩ := jn_of_gd ⟨hg, Or.inl ⟨rfl, rfl, by dsimp only; omega, by
    have := tex_len2 (c := 1) (s := s) (g := false) (d := D) (e := ex) (by omega)
    show (texT 1 s false D ex).length ≤ 4000
    omega⟩⟩
  have hb' : (sgL s ++ unT D (ex + D.length - 1)).length ≤ 10000 := by
    have h1 := unT_brief (D := D) (e := ex + D.length - 1) (by omega)
    have h2 : (sgL s).length ≤ 1 := by cases s <;> decide
    rw [List.length_append]
    omega
  have := read_w hb hk hc hj hb' W hT hT10
  rw [m1, m2] at this
  exact this
theorem bl_mul_le {a b A B : Nat} (ha : a < 2 ^ A) (hb : b < 2 ^ B) : bl (a * b) ≤ A + B := by
  refine bl_le.2 ?_
  rw [Nat.pow_add]
  exact Nat.mul_lt_mul'' ha hb
/-- ReadbinExact -/
theorem readbinExact_any (n : Int) (V : Nat) (d : Int) (w : World) (hT : Tab w) (hT10 : Tb10 w) (hV : V < 2 ^ 256) :
    Calls Tryz.prog 3 #[.int .i64 n, A4 V, .int .i64 d] w fun r w' => r = .returned (.bool true) ∧ Below w.heap.size w w' := by
  by_cases hf : finP n V
  · obtain ⟨hg, hc, hk⟩ := hf
    obtain ⟨hb, hkb, hx1, hx2, hD⟩ := fin_facts ⟨hg, hc, hk⟩
    have hpk := (back_un hg).2
    have hgf : (unD n V).g = false := by
      rcases hD with ⟨_, h, _⟩ | ⟨h, _⟩ | ⟨h, _⟩
      · exact h
      · rw [hc] at h; exact absurd h (by decide)
      · rw [hc] at h; exact absurd h (by decide)
    have c18 := fun W => runpack_any n V W hV
    rw [show unE n V = 0 from if_pos hg] at c18
    have eD : unD n V = ⟨1, (unD n V).s, false, (unD n V).x, (unD n V).k⟩ := by
      rw [← hc, ← hgf]
    rw [eD] at hD hpk c18
    generalize (unD n V).s = s at *
    generalize (unD n V).x = x at *
    generalize (unD n V).k = k at *
    clear eD hc hgf
    have c6 := fun W => fin9_y n V s false x k W hb c18 hkb hk
    by_cases hd : knB d
    · have c7 := fun W => dir_true hd W
      have c8 := fun W => rnat_v k W hkb
      have hxb : -1000000 ≤ x ∧ x ≤ 1000000 := by omega
      by_cases hx : 0 ≤ x
      · obtain ⟨D, d1, d2, c12⟩ := dec_w (k * 2 ^ x.toNat)
        have hbl : bl (k * 2 ^ x.toNat) ≤ 64 * 2000 := by
          have := bl_mul_le hkb (Nat.pow_lt_pow_succ (a := 2) (by decide) : 2 ^ x.toNat < 2 ^ (x.toNat + 1))
          omega
        have c9 : ∀ W v, NT 4 k v W → Calls Tryz.prog 9 #[v, .int .i64 x] W fun r w' => ∃ u, r = .returned u ∧ NT 2000 (k * 2 ^ x.toNat) u w' ∧ Below W.heap.size W w' := fun W v hv => by
          have := rleft_nt x.toNat (by decide) (by omega) hv.nv
          rw [Int.toNat_of_nonneg hx] at this
          exact this.mono fun r w' ⟨u, e, hu, hb⟩ => ⟨u, e, hu.tight hbl, hb⟩
        have c12' := fun W u hu => c12 2000 u W (Nat.le_refl _) hu
        by_cases hl : D.length ≤ 3900
        · obtain ⟨c14, c13⟩ := exact_read hb hd hD hk ⟨by omega, by omega⟩ d1 d2 hl (Or.inl ⟨hx, rfl, rfl⟩)
          rw [hpk] at c13
          exact ex_ps n d V x s false k w hT hT10 c6 c7 2000 _ D _ hxb c8 c12' hx c9 (by rw [B_size]; exact hl) c14 c13
        · exact ex_pl n d V x s false k w hT hT10 c6 c7 2000 _ D hxb c8 c12' hx c9 (by rw [B_size]; omega)
      · obtain ⟨D, d1, d2, c12⟩ := dec_w (k * 5 ^ (-x).toNat)
        have hbl : bl (k * 5 ^ (-x).toNat) ≤ 64 * 2000 := by
          have h5 : 5 ^ (-x).toNat < 2 ^ (3 * (-x).toNat + 1) := by
            have a1 : 5 ^ (-x).toNat ≤ (2 ^ 3) ^ (-x).toNat := Nat.pow_le_pow_left (by decide) _
            rw [← Nat.pow_mul] at a1
            exact Nat.lt_of_le_of_lt a1 (Nat.pow_lt_pow_succ (by decide))
          have := bl_mul_le hkb h5
          omega
        have c11 : ∀ W, Calls Tryz.prog 11 #[.int .u64 5, .int .i64 (-x)] W fun e w' => ∃ v, e = .returned v ∧ NV 70000 (5 ^ (-x).toNat) v w' ∧ Below W.heap.size W w' := fun W => by
          have := pow5_nv (-x).toNat W (by omega)
          rw [Int.toNat_of_nonneg (show 0 ≤ -x by omega)] at this
          exact this
        have c10 : ∀ W v p, NT 4 k v W → NV 70000 (5 ^ (-x).toNat) p W → Calls Tryz.prog 10 #[v, p] W fun e w' => ∃ u, e = .returned u ∧ NT 2000 (k * 5 ^ (-x).toNat) u w' ∧ Below W.heap.size W w' := fun W v p hv hp =>
          (rtimes_nt (by decide) (by decide) hv.nv hp).mono fun r w' ⟨u, e, hu, hb⟩ => ⟨u, e, hu.tight hbl, hb⟩
        have c12' := fun W u hu => c12 2000 u W (Nat.le_refl _) hu
        by_cases hl : D.length ≤ 3900
        · obtain ⟨c14, c13⟩ := exact_read hb hd hD hk ⟨by omega, by omega⟩ d1 d2 hl (Or.inr ⟨by omega, rfl, rfl⟩)
          rw [hpk] at c13
          exact ex_ns n d V x s false k w hT hT10 c6 c7 2000 _ D _ hxb c8 c12' hx _ _ c11 c10 (by rw [B_size]; exact hl) c14 c13
        · exact ex_nl n d V x s false k w hT hT10 c6 c7 2000 _ D hxb c8 c12' hx _ _ c11 c10 (by rw [B_size]; omega)
    · refine ex_nd n d V x s false k w hT hT10 c6 (fun W => ?_)
      have := rdir_any d W
      rw [decide_eq_false hd] at this
      exact this
  · obtain ⟨c, s, g, x, k, c6⟩ := fin9_n n V hV hf
    exact ex_no n d V c x s g k w hT hT10 c6
end Go.Proofs.YtpfnfaekgaipjaaGreatDoor

namespace Go.Proofs.YtpfnfaekgaipjaaGreatDoor
open Go.ChangeShapes Go.WideShapes Go.ChangeAt Go.RowKit

theorem Tryz.own : ownKnob Tryz.prog.godebug = none := by kernel_rfl
theorem Tryz.laidOut : laidOutB Tryz.prog = true := by kernel_rfl
def tabCells : Array Value := ((List.range 12).flatMap fun i => (List.range 4).map fun k => rowV i k).toArray
def layCells (c : Array Value) : Obj → Obj
  | .cells _ t frozen => .cells c t frozen
  | o => o
end Go.Proofs.YtpfnfaekgaipjaaGreatDoor
