/-
  Texts that the proof leans on, joined: Mf, Kc, Ix, Kd.
-/
import Derived.Test.YtplocajjfoiklaaGreatDoorJ33
import Derived.Test.YtplocajjfoiklaaGreatDoorJ36
import Derived.Test.YtplocajjfoiklaaGreatDoorJ1
import Derived.Test.YtplocajjfoiklaaGreatDoorJ27
import Derived.Test.YtplocajjfoiklaaGreatDoorJ2
import Derived.Test.YtplocajjfoiklaaGreatDoorJ6
import Derived.Test.YtplocajjfoiklaaGreatDoorJ4
import Derived.Test.YtplocajjfoiklaaGreatDoorJ9
import Derived.Test.YtplocajjfoiklaaGreatDoorJ31
import Derived.Test.YtplocajjfoiklaaGreatDoorJ16
import Derived.Test.YtplocajjfoiklaaGreatDoorJ32
import Derived.Test.YtplocajjfoiklaaGreatDoorJ21
set_option linter.unusedVariables false
set_option linter.unusedSectionVars false
set_option linter.unusedSimpArgs false
set_option maxRecDepth 20000
namespace Go.Proofs.YtplocajjfoiklaaGreatDoor
open Go.RowKit

attribute [local irreducible] W4
section
set_option maxHeartbeats 4000000
variable (n : Int) (V : Nat) (c : Int) (s g : Bool) (x : Int) (k : Nat) (w : World) (hT : Tab w)
include hT
theorem xw_e (E : Int) (hE : (E != 0) = true) (c21 : ∀ W, Tab W → Calls Tryz.prog 21 #[.int .i64 n, A4 V] W fun r w' => r = .returned (.tuple #[DV c s g x k, .int .i64 E]) ∧ Below W.heap.size W w') :
    Calls Tryz.prog 9 #[.int .i64 n, A4 V] w fun r w' => r = .returned (.tuple #[.string ⟨#[]⟩, .int .i64 E]) ∧ Below w.heap.size w w' := by
  have hsm := cell_set_map
  unfold DV at *
  go_enter Tryz.func9, Tryz.ntmps9
  go_wp2_with (go_at_call 21; refine (c21 _ (hT.go bgo)).mono ?_; rintro r w1 ⟨rfl, hb1⟩; obtain ⟨hc1, hf1⟩ := bcell hb1; have hz1_0 : w.heap.size < w1.heap.size := lt_below hb1 ltg; have hl1_0 := Nat.le_of_lt hz1_0; have hA1 := bnext (w0 := w) bgo hb1; have hs1 := hA1.size; clear hb1)
  go_ret2
  exact ⟨rfl, bgo⟩
variable (c21 : ∀ W, Tab W → Calls Tryz.prog 21 #[.int .i64 n, A4 V] W fun r w' => r = .returned (.tuple #[DV c s g x k, .int .i64 0]) ∧ Below W.heap.size W w')
include c21
theorem xw_o (hc : (c != 1) = true) (T : List UInt8) (c22 : ∀ W, Below w.heap.size w W → Calls Tryz.prog 22 #[.int .i64 n, A4 V] W fun r w' => r = .returned (.tuple #[.string (B T), .int .i64 0]) ∧ Below W.heap.size W w') :
    Calls Tryz.prog 9 #[.int .i64 n, A4 V] w fun r w' => r = .returned (.tuple #[.string (B T), .int .i64 0]) ∧ Below w.heap.size w w' := by
  have hsm := cell_set_map
  unfold DV at *
  generalize B T = bT at *
  go_enter Tryz.func9, Tryz.ntmps9
  go_wp2_with (first
    | (go_at_call 21; refine (c21 _ (hT.go bgo)).mono ?_; rintro r w1 ⟨rfl, hb1⟩; obtain ⟨hc1, hf1⟩ := bcell hb1; have hz1_0 : w.heap.size < w1.heap.size := lt_below hb1 ltg; have hl1_0 := Nat.le_of_lt hz1_0; have hA1 := bnext (w0 := w) bgo hb1; have hs1 := hA1.size; clear hb1)
    | (go_at_call 22; refine (c22 _ bgo).mono ?_; rintro r w2 ⟨rfl, hb2⟩; obtain ⟨hc2, hf2⟩ := bcell hb2; have hz2_0 : w.heap.size < w2.heap.size := lt_below hb2 ltg; have hl2_0 := Nat.le_of_lt hz2_0; have hA2 := bnext (w0 := w) bgo hb2; have hs2 := hA2.size; clear hb2))
  go_ret2
  exact ⟨rfl, bgo⟩
variable (hc : c = 1) (T : List UInt8) (hl : T.length ≤ 1000) (c23 : ∀ W, Below w.heap.size w W → Calls Tryz.prog 23 #[A4 k, .int .i64 x] W fun r w' => r = .returned (.string (B T)) ∧ Below W.heap.size W w')
include hc hl c23
theorem xw_p (hs : s = false) : Calls Tryz.prog 9 #[.int .i64 n, A4 V] w fun r w' => r = .returned (.tuple #[.string (B T), .int .i64 0]) ∧ Below w.heap.size w w' := by
  subst hc hs
  have hsm := cell_set_map
  unfold DV at *
  generalize B T = bT at *
  go_enter Tryz.func9, Tryz.ntmps9
  go_wp2_with (first
    | (go_at_call 21; refine (c21 _ (hT.go bgo)).mono ?_; rintro r w1 ⟨rfl, hb1⟩; obtain ⟨hc1, hf1⟩ := bcell hb1; have hz1_0 : w.heap.size < w1.heap.size := lt_below hb1 ltg; have hl1_0 := Nat.le_of_lt hz1_0; have hA1 := bnext (w0 := w) bgo hb1; have hs1 := hA1.size; clear hb1)
    | (go_at_call 23; refine (c23 _ bgo).mono ?_; rintro r w2 ⟨rfl, hb2⟩; obtain ⟨hc2, hf2⟩ := bcell hb2; have hz2_0 : w.heap.size < w2.heap.size := lt_below hb2 ltg; have hl2_0 := Nat.le_of_lt hz2_0; have hA2 := bnext (w0 := w) bgo hb2; have hs2 := hA2.size; clear hb2))
  go_ret2
  exact ⟨rfl, bgo⟩
theorem xw_m (hs : s = true) : Calls Tryz.prog 9 #[.int .i64 n, A4 V] w fun r w' => r = .returned (.tuple #[.string (B ([45] ++ T)), .int .i64 0]) ∧ Below w.heap.size w w' := by
  subst hc hs
  have hsm := cell_set_map
  have hsz : (B T).size = T.length := B_size T
  have hli : (T.length : Int) ≤ 1000 := by omega
  have p0 : (⟨#[45]⟩ : ByteArray) ++ B T = B ([45] ++ T) := B_app [45] T
  unfold DV at *
  generalize B ([45] ++ T) = bS at *
  generalize B T = bT at *
  go_enter Tryz.func9, Tryz.ntmps9
  go_wp2_with (first
    | (go_at_call 21; refine (c21 _ (hT.go bgo)).mono ?_; rintro r w1 ⟨rfl, hb1⟩; obtain ⟨hc1, hf1⟩ := bcell hb1; have hz1_0 : w.heap.size < w1.heap.size := lt_below hb1 ltg; have hl1_0 := Nat.le_of_lt hz1_0; have hA1 := bnext (w0 := w) bgo hb1; have hs1 := hA1.size; clear hb1)
    | (go_at_call 23; refine (c23 _ bgo).mono ?_; rintro r w2 ⟨rfl, hb2⟩; obtain ⟨hc2, hf2⟩ := bcell hb2; have hz2_0 : w.heap.size < w2.heap.size := lt_below hb2 ltg; have hl2_0 := Nat.le_of_lt hz2_0; have hA2 := bnext (w0 := w) bgo hb2; have hs2 := hA2.size; clear hb2))
  go_ret2
  exact ⟨rfl, bgo⟩
end
theorem hwT_len (k : Nat) {x : Int} (hk : bl k ≤ 241) (hx : -40000 ≤ x ∧ x ≤ 40000) : (hwT k x).length ≤ 200 := by
  unfold hwT
  split
  · decide
  · unfold hbT
    have h1 := (hbD_facts k).2.1
    have h2 : hbC k ≤ 61 := by unfold hbC; omega
    have h3 := itoa_short (e := x + bl k - 1) (by omega)
    rw [List.length_append, List.length_append, List.length_append, List.length_append]
    split <;> split <;> simp <;> omega
/-- Write, of a pattern that isn't the format's -/
theorem xwrite_n {n : Int} {V : Nat} (hV : V < 2 ^ 256) (hg : ¬ goodN n V) (w : World) (hT : Tab w) : Calls Tryz.prog 9 #[.int .i64 n, A4 V] w fun r w' => r = .returned (.tuple #[.string (B []), .int .i64 1]) ∧ Below w.heap.size w w' := by
  have c21 := fun W (hW : Tab W) => unpack_any n V W hW hV
  rw [show unE n V = 1 from if_neg hg] at c21
  exact xw_e n V _ _ _ _ _ w hT 1 (by decide) c21
section
variable {n : Int} {V : Nat} (hV : V < 2 ^ 256) (hg : goodN n V) (w : World) (hT : Tab w) (hT10 : Tb10 w)
include hV hg hT hT10
theorem xwrite_o (hc : (unD n V).c ≠ 1) : Calls Tryz.prog 9 #[.int .i64 n, A4 V] w fun r w' => r = .returned (.tuple #[.string (B (texT (unD n V).c (unD n V).s (unD n V).g (dcL (unD n V).k) 0)), .int .i64 0]) ∧ Below w.heap.size w w' := by
  have c21 := fun W (hW : Tab W) => unpack_any n V W hW hV
  rw [show unE n V = 0 from if_pos hg] at c21
  have hkk := unD_k n V
  refine xw_o n V _ _ _ _ _ w hT c21 (by simpa using hc) _ fun W hW => ?_
  by_cases h2 : (unD n V).c = 2
  · rw [show texT (unD n V).c (unD n V).s (unD n V).g (dcL (unD n V).k) 0 = sgL (unD n V).s ++ [105, 110, 102] by unfold texT bodT sgL; rw [if_pos h2]]
    refine write_of (hT.go hW) (hT10.next hW) _ (by decide) hV hg fun W _ _ => ?_
    unfold Dat.v
    rw [h2]
    exact uns_i n (unD n V).s (unD n V).g (unD n V).x (unD n V).k W
  · have h3 : (unD n V).c = 3 := by
      rcases un_isD hg with ⟨e1, _⟩ | ⟨e1, _⟩ | ⟨e1, _⟩
      · exact absurd e1 hc
      · exact absurd e1 h2
      · exact e1
    rw [show texT (unD n V).c (unD n V).s (unD n V).g (dcL (unD n V).k) 0 = sgL (unD n V).s ++ nanT (unD n V).g (dcL (unD n V).k) by unfold texT bodT sgL; rw [if_neg h2, if_pos h3]]
    obtain ⟨_, _, f3⟩ := dcL_facts hkk
    refine write_of (hT.go hW) (hT10.next hW) _ (Nat.le_trans (nanT_len f3) (by decide)) hV hg fun W _ _ => ?_
    unfold Dat.v
    rw [h3]
    exact uns_n n (unD n V).s (unD n V).g (unD n V).x (unD n V).k W _ fun W => nan_v 3 (unD n V).s (unD n V).g (unD n V).x (unD n V).k W hkk
theorem xwrite_f (hTZ : TbZ w) (hc : (unD n V).c = 1) : Calls Tryz.prog 9 #[.int .i64 n, A4 V] w fun r w' => r = .returned (.tuple #[.string (B (sgL (unD n V).s ++ hwT (unD n V).k (unD n V).x)), .int .i64 0]) ∧ Below w.heap.size w w' := by
  have c21 := fun W (hW : Tab W) => unpack_any n V W hW hV
  rw [show unE n V = 0 from if_pos hg] at c21
  obtain ⟨hkb, hxb⟩ : bl (unD n V).k ≤ 241 ∧ (-40000 ≤ (unD n V).x ∧ (unD n V).x ≤ 40000) := by
    have hf := (bin_fm hg.1).f240
    rcases un_isD hg with ⟨e1, e2, e3, e4, e5, e6⟩ | ⟨e1, _⟩ | ⟨e1, _⟩
    · have hx := bin_x hg.1 e4 e5
      have := bl_le.2 e3
      exact ⟨by omega, by omega, by omega⟩
    · omega
    · omega
  have c23 := fun W (hW : Below w.heap.size w W) => hun_v (unD n V).x W (hTZ.next hW) (hT10.next hW) hkb hxb
  have hlen := hwT_len (unD n V).k hkb hxb
  cases hs : (unD n V).s
  · exact xw_p n V _ _ _ _ _ w hT c21 hc (hwT (unD n V).k (unD n V).x) (by omega) c23 hs
  · exact xw_m n V _ _ _ _ _ w hT c21 hc (hwT (unD n V).k (unD n V).x) (by omega) c23 hs
end
end Go.Proofs.YtplocajjfoiklaaGreatDoor

namespace Go.Proofs.YtplocajjfoiklaaGreatDoor
open Go.RowKit

set_option maxHeartbeats 1000000 in
theorem low_v {K X : Nat} {v : Value} {w : World} (hK : K < 1000000) (h : NV K X v w) : Calls Tryz.prog 30 #[v] w fun r w' => r = .returned (.int .i64 ((X % 16 : Nat) : Int)) ∧ w = w' := by
  obtain ⟨g, k, c, z, rfl, hk, hN, hz⟩ := h
  rcases Nat.eq_zero_or_pos k with hk0 | hk0
  · have h0 : X = 0 := by
      subst hk0
      have : val z 0 = 0 := rfl
      omega
    subst h0 hk0
    clear hN
    go_enter Tryz.func30, Tryz.ntmps30
    go_wp2
    go_ret
    exact ⟨rfl, rfl⟩
  · have hki : ((k : Int) == 0) = false := by rw [beq_eq_false_iff_ne]; omega
    have hki2 : (0 : Int) < k := by omega
    have hz0 := hN.2.2.1 0
    have hm : bits BinOp.and IntKind.u64 (z 0) 15 = ((X % 16 : Nat) : Int) := by
      rw [show (15 : Int) = 2 ^ 4 - 1 by decide, and_mask hz0 (by decide)]
      obtain ⟨k', rfl⟩ : ∃ k', k = 1 + k' := ⟨k - 1, by omega⟩
      have hs := val_split z 1 k'
      rw [hz] at hs
      have h10 : val z 1 = z 0 := by show val z 0 + z 0 * 18446744073709551616 ^ 0 = z 0; simp [val]
      rw [h10, Int.pow_one] at hs
      omega
    obtain ⟨n1, n2, n3, n4, n5⟩ := hN
    rcases n5 with ⟨_, n6⟩ | ⟨b, off, e, n7, n8⟩
    · omega
    · cases e
      have hc0 := n8 0 hk0
      rw [Nat.add_zero] at hc0
      have hxb : (0 : Int) ≤ ((X % 16 : Nat) : Int) ∧ ((X % 16 : Nat) : Int) ≤ 15 := by omega
      generalize ((X % 16 : Nat) : Int) = y at *
      clear hz n3 n4 n8
      generalize z 0 = z0 at *
      go_enter Tryz.func30, Tryz.ntmps30
      go_wp2
      go_ret
      exact ⟨rfl, rfl⟩
end Go.Proofs.YtplocajjfoiklaaGreatDoor

namespace Go.Proofs.YtplocajjfoiklaaGreatDoor
open Go.RowKit

/-- what a text's byte is -/
def IDX (b : ByteArray) (i : Nat) (c : Int) : Prop := ∀ h : i < b.size, ((b[i]'h).toNat : Int) = c
theorem IDX_of {l : List UInt8} {i : Nat} (h : i < l.length) : IDX (B l) i (((l[i]'h).toNat : Nat) : Int) := by
  intro h'
  rw [by_lt h']
  unfold by_
  rw [dif_pos h]
theorem IDX_get {l : List UInt8} {i : Nat} {y : UInt8} (h : l[i]? = some y) : IDX (B l) i ((y.toNat : Nat) : Int) := by
  obtain ⟨hi, e⟩ := List.getElem?_eq_some_iff.1 h
  have := IDX_of hi
  rw [e] at this
  exact this
end Go.Proofs.YtplocajjfoiklaaGreatDoor

namespace Go.Proofs.YtplocajjfoiklaaGreatDoor
open Go.RowKit

theorem NT.fit {K K' V : Nat} {v : Value} {w : World} (h : NT K V v w) (hb : bl V ≤ 64 * K') : NT K' V v w := by
  obtain ⟨g, k, cap, z, h1, h2, h3, h4, h5⟩ := h
  exact ⟨g, k, cap, z, h1, by have := (size_bl (m := K') h3.2.2.1 h4).2 hb; omega, h3, h4, h5⟩
/-- a number in a list of words, or nothing, which is 0 -/
def NO (K X : Nat) (v : Value) (w : World) : Prop := (v = .slice none 0 0 ∧ X = 0) ∨ NT K X v w
theorem NO.next {K X : Nat} {v : Value} {w w' : World} (h : NO K X v w) (hb : Below w.heap.size w w') : NO K X v w' := by
  rcases h with h | h
  · exact Or.inl h
  · exact Or.inr (h.next hb)
theorem NO.more {K K' X : Nat} {v : Value} {w : World} (h : NO K X v w) (hk : K ≤ K') : NO K' X v w := by
  rcases h with h | h
  · exact Or.inl h
  · exact Or.inr (h.more hk)
theorem NO.nt {K X : Nat} {v : Value} {w : World} (h : NO K X v w) : Nt K X v w := by
  rcases h with ⟨rfl, rfl⟩ | h
  · exact ⟨none, 0, 0, fun _ => 0, rfl, Nat.zero_le _, ⟨Nat.le_refl _, by unfold maxLen; omega, fun _ => ⟨Int.le_refl _, show (0 : Int) ≤ _ by decide⟩, fun _ _ => rfl, Or.inl ⟨rfl, rfl⟩⟩, rfl⟩
  · obtain ⟨g, k, cap, z, h1, h2, h3, h4, _⟩ := h
    exact ⟨_, k, cap, z, h1, h2, h3, h4⟩
end Go.Proofs.YtplocajjfoiklaaGreatDoor
