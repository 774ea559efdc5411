/-
  Texts that the proof leans on, joined: Kg, Mn, Lift, Lfw, Lfd, Lk, Lz, Mg, Mh, Mi.
-/
import Derived.Test.YtplocajjfoiklaaGreatDoorJ38
import Derived.Test.YtplocajjfoiklaaGreatDoorJ36
import Derived.Test.YtplocajjfoiklaaGreatDoorJ37
import Derived.Test.YtplocajjfoiklaaGreatDoorJ1
import Derived.Test.YtplocajjfoiklaaGreatDoorJ33
import Derived.ProofKit
import Derived.OpenShut
import Derived.Carry
import Derived.Deep.DeepHandedRow
import Derived.Test.YtplocajjfoiklaaGreatDoorJ3
import Derived.Test.YtplocajjfoiklaaGreatDoorJ2
import Derived.Test.YtplocajjfoiklaaGreatDoorJ22
import Derived.Test.YtplocajjfoiklaaGreatDoorJ28
import Derived.Test.YtplocajjfoiklaaGreatDoorRows
import Derived.LaidLaws
import Derived.ChangeMaps5
import Derived.Test.YtplocajjfoiklaaGreatDoorJ14
import Derived.Test.YtplocajjfoiklaaGreatDoorJ20
import Derived.Test.YtplocajjfoiklaaGreatDoorJ16
import Derived.Test.YtplocajjfoiklaaGreatDoorJ11
import Derived.Test.YtplocajjfoiklaaGreatDoorJ9
set_option linter.unusedVariables false
set_option linter.unusedSectionVars false
set_option linter.unusedSimpArgs false
set_option maxRecDepth 20000
namespace Go.Proofs.YtplocajjfoiklaaGreatDoor
open Go.RowKit

theorem rlen_n4 {K k : Nat} {v : Value} {w : World} (hK : K < 1000000) (h : Nt K k v w) : Calls Tryz.prog 26 #[v] w fun r w' => r = .returned (.int .i64 (bl k : Int)) ∧ w = w' := by
  obtain ⟨a, n, c, z, rfl, hn, hN, hz⟩ := h
  have := rlen_num a n c z w (by omega) hN
  rw [len_bl hN.2.2.1 hz] at this
  exact this
theorem hxL_take {N c i : Nat} (h : i < c) : (hxL N c).take (i + 1) = (hxL N c).take i ++ [hxd (N / 16 ^ (c - 1 - i) % 16)] := by
  have hl : i < (hxL N c).length := by rw [hxL_len]; exact h
  have hg := hxL_get (N := N) h
  rw [List.getElem?_eq_getElem hl] at hg
  rw [List.take_succ_eq_append_getElem hl, Option.some.inj hg]
theorem hwrite_n {n : Int} {V : Nat} (hV : V < 2 ^ 256) (hg : ¬ goodN n V) (w : World) : Calls Tryz.prog 10 #[.int .i64 n, A4 V] w fun r w' => r = .returned (.tuple #[.string (B []), .int .i64 1]) ∧ Below w.heap.size w w' := by
  have c14 := fun W => runpack_any n V W hV
  rw [show unE n V = 1 from if_neg hg] at c14
  exact hw_e n V _ _ _ _ _ w 1 (by decide) c14
section
variable {n : Int} {V : Nat} (hV : V < 2 ^ 256) (hg : goodN n V) (w : World) (hT10 : Tb10 w)
include hV hg hT10
theorem hwrite_o (hc : (unD n V).c ≠ 1) : Calls Tryz.prog 10 #[.int .i64 n, A4 V] w fun r w' => r = .returned (.tuple #[.string (B (texT (unD n V).c (unD n V).s (unD n V).g (dcL (unD n V).k) 0)), .int .i64 0]) ∧ Below w.heap.size w w' := by
  have c14 := fun W => runpack_any n V W hV
  rw [show unE n V = 0 from if_pos hg] at c14
  exact hw_o n V _ _ _ _ _ w c14 (by simpa using hc) _ hT10 (fun W hW => oth_v _ _ _ _ _ W (unD_k n V) hW)
theorem hwrite_0 (hc : (unD n V).c = 1) (hk : (unD n V).k = 0) : Calls Tryz.prog 10 #[.int .i64 n, A4 V] w fun r w' => r = .returned (.tuple #[.string (B (sgL (unD n V).s ++ hbZ)), .int .i64 0]) ∧ Below w.heap.size w w' := by
  have c14 := fun W => runpack_any n V W hV
  rw [show unE n V = 0 from if_pos hg] at c14
  refine hw_0 n V _ _ _ _ _ w c14 hc (fun W v hv => ?_) (unD_k n V)
  have := rlen_n4 (by decide) hv
  rw [hk] at this
  exact this
theorem hwrite_k (hc : (unD n V).c = 1) (hk : (unD n V).k ≠ 0) : Calls Tryz.prog 10 #[.int .i64 n, A4 V] w fun r w' => r = .returned (.tuple #[.string (B (sgL (unD n V).s ++ hbT (unD n V).k (unD n V).x)), .int .i64 0]) ∧ Below w.heap.size w w' := by
  obtain ⟨hb, hkb, hx1, hx2, hD⟩ := fin_facts ⟨hg, hc, hk⟩
  have c14 := fun W => runpack_any n V W hV
  rw [show unE n V = 0 from if_pos hg] at c14
  have eD : (unD n V).v = DV 1 (unD n V).s (unD n V).g (unD n V).x (unD n V).k := by rw [← hc]
  rw [eD] at c14
  generalize (unD n V).s = s at *
  generalize (unD n V).g = g at *
  generalize (unD n V).x = x at *
  generalize (unD n V).k = k at *
  have hbk : bl k ≤ 256 := bl_le.2 hkb
  have hb0 : bl k ≠ 0 := fun e => hk (bl_zero.1 e)
  have hCd : hbC k = (bl k - 1 + 3) / 4 := rfl
  have hCle := hbC_le k
  have hC64 : hbC k ≤ 65 := by omega
  have hRb : bl (hbR k) ≤ 260 := by
    have h1 := hbR_lt k
    rw [p16] at h1
    have := bl_le.2 h1
    omega
  have c17 : ∀ W, Calls Tryz.prog 27 #[A4 k, .int .i64 0, .int .i64 ((bl k : Int) - 1)] W fun r w' => ∃ v, r = .returned v ∧ NT 19 (k % 2 ^ (bl k - 1)) v w' ∧ Below W.heap.size W w' := fun W => by
    have := field_any k 0 (bl k - 1) W hkb (by omega) (by omega)
    rw [Nat.pow_zero, Nat.div_one, show ((bl k - 1 : Nat) : Int) = (bl k : Int) - 1 by omega] at this
    exact this
  have c18 : ∀ W v, NT 19 (k % 2 ^ (bl k - 1)) v W → Calls Tryz.prog 28 #[v, .int .i64 (4 * (hbC k : Int) - ((bl k : Int) - 1))] W fun r w' => ∃ v, r = .returned v ∧ NT 60 (hbR k) v w' ∧ Below W.heap.size W w' := fun W v hv => by
    have := rleft_nt (4 * hbC k - (bl k - 1)) (by decide) (by omega) hv.nv
    rw [show ((4 * hbC k - (bl k - 1) : Nat) : Int) = 4 * (hbC k : Int) - ((bl k : Int) - 1) by omega] at this
    exact this.mono fun r w' ⟨u, e1, e2, e3⟩ => ⟨u, e1, e2.fit (by show bl (hbR k) ≤ _; omega), e3⟩
  have c19 : ∀ W v (i : Nat), i < hbC k → NT 60 (hbR k) v W → Calls Tryz.prog 29 #[v, .int .i64 (4 * ((hbC k : Int) - 1 - i))] W fun r w' => ∃ v b, r = .returned (.tuple #[v, .bool b]) ∧ NV 60 (hbR k / 16 ^ (hbC k - 1 - i)) v w' ∧ Below W.heap.size W w' := fun W v i hi hv => by
    have := rright_nv (4 * (hbC k - 1 - i)) (by decide) (by omega) hv.nv
    rw [show ((4 * (hbC k - 1 - i) : Nat) : Int) = 4 * ((hbC k : Int) - 1 - i) by omega, ← p16] at this
    exact this
  have hX : -100000 ≤ x + bl k - 1 ∧ x + bl k - 1 ≤ 100000 := by omega
  have hit := itoa_short hX
  have c21 : ∀ W, Below w.heap.size w W → Calls Tryz.prog 31 #[.int .i64 (x + bl k - 1)] W fun r w' => r = .returned (.string (B (Lib.itoa (x + bl k - 1)))) ∧ Below W.heap.size W w' := fun W hW => itoa_any _ W (by omega) (hT10.next hW)
  have hG : ∀ i, i < hbC k → ∃ y, y < 16 ∧ (fun i => hbR k / 16 ^ (hbC k - 1 - i)) i % 16 = y ∧ (hxL (hbR k) (hbC k)).take (i + 1) = (hxL (hbR k) (hbC k)).take i ++ [hxd y] := fun i hi => ⟨_, Nat.mod_lt _ (by decide), rfl, hxL_take hi⟩
  have hTx : hbT k x = [48, 120, 49] ++ (if hbD k = [] then [] else 46 :: hbD k) ++ [112] ++ (if 0 ≤ x + bl k - 1 then [43] else []) ++ Lib.itoa (x + bl k - 1) := rfl
  cases s
  · exact hw_p n V 1 false g x k w c14 rfl (bl k) (hbC k) (k % 2 ^ (bl k - 1)) (hbR k) (fun i => hbR k / 16 ^ (hbC k - 1 - i)) (hxL (hbR k) (hbC k)) (hbD k) (Lib.itoa (x + bl k - 1)) (x + bl k - 1) hkb (by omega) hCd (by omega) rfl hit (hxL_len _ _) rfl hG (fun W v hv => rlen_n4 (by decide) hv) c17 c18 c19 (fun W v Y hv => low_v (by decide) hv) c21 rfl _ (by rw [hTx]; rfl)
  · exact hw_m n V 1 true g x k w c14 rfl (bl k) (hbC k) (k % 2 ^ (bl k - 1)) (hbR k) (fun i => hbR k / 16 ^ (hbC k - 1 - i)) (hxL (hbR k) (hbC k)) (hbD k) (Lib.itoa (x + bl k - 1)) (x + bl k - 1) hkb (by omega) hCd (by omega) rfl hit (hxL_len _ _) rfl hG (fun W v hv => rlen_n4 (by decide) hv) c17 c18 c19 (fun W v Y hv => low_v (by decide) hv) c21 rfl _ (by rw [hTx]; rfl)
end
end Go.Proofs.YtplocajjfoiklaaGreatDoor

namespace Go.Proofs.YtplocajjfoiklaaGreatDoor
open Go.RowKit

theorem half_un : unD 3 1069547520 = ⟨1, false, false, -23, 12582912⟩ := by kernel_rfl
theorem half_text : hwT 12582912 (-23) = [48, 120, 49, 46, 56, 112, 43, 48] := by decide +kernel
theorem A4_half : A4 1069547520 = .agg #[.int .u64 1069547520, .int .u64 0, .int .u64 0, .int .u64 0] := by unfold A4; rw [show W4 1069547520 0 = 1069547520 by decide, show W4 1069547520 1 = 0 by decide, show W4 1069547520 2 = 0 by decide, show W4 1069547520 3 = 0 by decide]
attribute [local irreducible] W4
set_option maxHeartbeats 1000000 in
theorem awake11 (w : World) (hT : Tab w) (hT10 : Tb10 w) (hTZ : TbZ w) : Calls Tryz.prog 8 #[] w fun r w' => r = .returned (.bool true) ∧ Below w.heap.size w w' := by
  have hg : goodN 3 1069547520 := by decide
  have c9 := fun W (h1 : Tab W) (h2 : Tb10 W) (h3 : TbZ W) => xwrite_f (n := 3) (V := 1069547520) (by decide) hg W h1 h2 h3 (by rw [half_un])
  rw [half_un, half_text, A4_half] at c9
  have eb : B (sgL false ++ [48, 120, 49, 46, 56, 112, 43, 48]) = ⟨#[48, 120, 49, 46, 56, 112, 43, 48]⟩ := rfl
  have c10 : ∀ W, Tab W → Tb10 W → TbZ W → Calls Tryz.prog 9 #[.int .i64 3, .agg #[.int .u64 1069547520, .int .u64 0, .int .u64 0, .int .u64 0]] W fun r w' => r = .returned (.tuple #[.string ⟨#[48, 120, 49, 46, 56, 112, 43, 48]⟩, .int .i64 0]) ∧ Below W.heap.size W w' := c9
  clear c9
  go_enter Tryz.func8, Tryz.ntmps8
  go_wp2_with (go_at_call 9; refine (c10 _ (hT.go bgo) (hT10.next bgo) (hTZ.next bgo)).mono ?_; rintro r w1 ⟨rfl, hb1⟩)
  go_ret
  exact ⟨rfl, hb1⟩
section
variable (n : Int) (V : Nat) (w : World) (hT : Tab w) (hT10 : Tb10 w) (hTZ : TbZ w)
  (c8 : ∀ W, Below w.heap.size w W → Calls Tryz.prog 8 #[] W fun r w' => r = .returned (.bool true) ∧ Below W.heap.size W w')
include hT hT10 hTZ c8
set_option maxHeartbeats 2000000 in
theorem law11_3 (T : List UInt8) (e : Int)
    (c9 : ∀ W, Tab W → Tb10 W → TbZ W → Calls Tryz.prog 9 #[.int .i64 n, A4 V] W fun r w' => r = .returned (.tuple #[.string (B T), .int .i64 e]) ∧ Below W.heap.size W w')
    (c10 : ∀ W, Tb10 W → Calls Tryz.prog 10 #[.int .i64 n, A4 V] W fun r w' => r = .returned (.tuple #[.string (B T), .int .i64 e]) ∧ Below W.heap.size W w') :
    Calls Tryz.prog 3 #[.int .i64 n, A4 V] w fun r w' => r = .returned (.bool true) ∧ Below w.heap.size w w' := by
  have hsm := cell_set_map
  generalize B T = bT at *
  unfold A4 at *
  go_enter Tryz.func3, Tryz.ntmps3
  go_wp2_with (first
    | (go_at_call 8; refine (c8 _ bgo).mono ?_; rintro r w1 ⟨rfl, hb1⟩; obtain ⟨hc1, hf1⟩ := bcell hb1; have hz1_0 : w.heap.size < w1.heap.size := lt_below hb1 ltg; have hl1_0 := Nat.le_of_lt hz1_0; have hA1 := bnext (w0 := w) bgo hb1; have hs1 := hA1.size; clear hb1)
    | (go_at_call 9; refine (c9 _ (hT.go bgo) (hT10.next bgo) (hTZ.next bgo)).mono ?_; rintro r w2 ⟨rfl, hb2⟩; obtain ⟨hc2, hf2⟩ := bcell hb2; have hz2_0 : w.heap.size < w2.heap.size := lt_below hb2 ltg; have hl2_0 := Nat.le_of_lt hz2_0; have hA2 := bnext (w0 := w) bgo hb2; have hs2 := hA2.size; clear hb2)
    | (go_at_call 10; refine (c10 _ (hT10.next bgo)).mono ?_; rintro r w3 ⟨rfl, hb3⟩; obtain ⟨hc3, hf3⟩ := bcell hb3; have hz3_0 : w.heap.size < w3.heap.size := lt_below hb3 ltg; have hl3_0 := Nat.le_of_lt hz3_0; have hA3 := bnext (w0 := w) bgo hb3; have hs3 := hA3.size; clear hb3))
  go_ret
  exact ⟨by simp, bgo⟩
end
theorem hexformWrites_any (n : Int) (V : Nat) (w : World) (hT : Tab w) (hT10 : Tb10 w) (hTZ : TbZ w) (hV : V < 2 ^ 256) : Calls Tryz.prog 3 #[.int .i64 n, A4 V] w fun r w' => r = .returned (.bool true) ∧ Below w.heap.size w w' := by
  have c8 := fun W (hW : Below w.heap.size w W) => awake11 W (hT.go hW) (hT10.next hW) (hTZ.next hW)
  by_cases hg : goodN n V
  · by_cases hc : (unD n V).c = 1
    · by_cases hk : (unD n V).k = 0
      · have e : hwT (unD n V).k (unD n V).x = hbZ := if_pos hk
        refine law11_3 n V w hT hT10 hTZ c8 (sgL (unD n V).s ++ hbZ) 0 (fun W h1 h2 h3 => ?_) (fun W h2 => hwrite_0 hV hg W h2 hc hk)
        have := xwrite_f hV hg W h1 h2 h3 hc
        rw [e] at this
        exact this
      · have e : hwT (unD n V).k (unD n V).x = hbT (unD n V).k (unD n V).x := if_neg hk
        refine law11_3 n V w hT hT10 hTZ c8 (sgL (unD n V).s ++ hbT (unD n V).k (unD n V).x) 0 (fun W h1 h2 h3 => ?_) (fun W h2 => hwrite_k hV hg W h2 hc hk)
        have := xwrite_f hV hg W h1 h2 h3 hc
        rw [e] at this
        exact this
    · exact law11_3 n V w hT hT10 hTZ c8 _ 0 (fun W h1 h2 h3 => xwrite_o hV hg W h1 h2 hc) (fun W h2 => hwrite_o hV hg W h2 hc)
  · exact law11_3 n V w hT hT10 hTZ c8 [] 1 (fun W h1 _ _ => xwrite_n hV hg W h1) (fun W _ => hwrite_n hV hg W)
end Go.Proofs.YtplocajjfoiklaaGreatDoor

namespace Go.Proofs.YtplocajjfoiklaaGreatDoor
open Go.ChangeShapes Go.WideShapes Go.ChangeAt Go.RowKit

theorem Tryz.own : ownKnob Tryz.prog.godebug = none := by kernel_rfl
theorem Tryz.laidOut : laidOutB Tryz.prog = true := by kernel_rfl
def tabCells : Array Value := ((List.range 12).flatMap fun i => (List.range 4).map fun k => rowV i k).toArray
def layCells (c : Array Value) : Obj → Obj
  | .cells _ t frozen => .cells c t frozen
  | o => o
end Go.Proofs.YtplocajjfoiklaaGreatDoor

set_option maxRecDepth 100000
set_option maxRecDepth 20000
namespace Go.Proofs.YtplocajjfoiklaaGreatDoor
open Go.ChangeShapes Go.WideShapes Go.ChangeAt Go.RowKit

theorem Tryz.cells22 : Tryz.prog.cellsOf 22 = 1 := by kernel_rfl
section
variable {H : Type} {enc : TypeId × Value → H} {W : World} {r : Reach} {base b : Nat} {sp : Nat → Bool} {held : Bool} {t : TypeId} {n : Nat} {v : Value} {d : DataW H} {p : List MemPlace}
theorem open_words (ht : Tryz.prog.underlying t = some (.array n 22)) (hc : Tryz.prog.cellsOf t = n) (hok : Value.okWide Tryz.prog W r base t v) (h : DataW.Trod enc Tryz.prog W b sp held t v d p) :
    ∃ x, Words x ∧ v = .agg (arrOf x n) ∧ p = [] := by
  have ho : ∃ cs, v = .agg cs ∧ cs.size = n := by
    simp only [Value.okWide, ht] at hok
    obtain ⟨cs, h1, h2, _⟩ := hok
    exact ⟨cs, h1, by rw [h2, hc]⟩
  obtain ⟨cs, rfl, hcs⟩ := ho
  obtain ⟨fuel, hf⟩ := h
  obtain ⟨xs, m, rfl, hx, hl, hlen, hi⟩ := DataW.trod_array ht hf
  have hcell : ∀ i, i < n → ∃ z, cs[i]? = some (.int .u64 z) ∧ xs[i]? = some (.lit (.int .u64 z), []) ∧ (0 ≤ z ∧ z ≤ 18446744073709551615) := by
    intro i hin
    have h1 := hi i hin
    rw [Tryz.cells22] at h1
    have hix : i < xs.length := by omega
    rw [List.getElem?_eq_getElem hix] at h1
    obtain ⟨z, hz, hxz, hw⟩ := DataW.trod_int Tryz.underlying22 h1
    refine ⟨z, ?_, ?_, bounds_u64 hw⟩
    · have hic : i < cs.size := by omega
      have : ((Value.agg cs).cells.toList.drop (i * 1)).take 1 = [cs[i]] := by
        simp [Value.cells, List.take_one, List.head?_drop, hic]
      rw [this] at hz
      rw [Array.getElem?_eq_getElem hic]
      simpa using hz
    · rw [List.getElem?_eq_getElem hix, hxz]
  refine ⟨fun i => match cs[i]? with | some (.int .u64 z) => (if i < n then z else 0) | _ => 0, ?_, ?_, ?_⟩
  · intro i
    by_cases hin : i < n
    · obtain ⟨z, h1, _, h3⟩ := hcell i hin
      simp only [h1, if_pos hin]; exact h3
    · have : cs[i]? = none := by simp; omega
      simp only [this]; omega
  · congr 1
    refine arrOf_of cs n _ hcs fun i hin => ?_
    obtain ⟨z, h1, _, _⟩ := hcell i hin
    simp only [h1, if_pos hin]
  · have : p = xs.flatMap (·.2) := by
      have := congrArg Prod.snd hx; simpa using this
    rw [this]
    simp only [List.flatMap_eq_nil_iff]
    intro y hy
    obtain ⟨i, hin, rfl⟩ := List.getElem_of_mem hy
    obtain ⟨z, _, h2, _⟩ := hcell i (by omega)
    rw [List.getElem?_eq_getElem hin] at h2
    rw [Option.some.inj h2]
end
end Go.Proofs.YtplocajjfoiklaaGreatDoor

set_option maxRecDepth 100000
namespace Go.Proofs.YtplocajjfoiklaaGreatDoor
open Go.ChangeShapes Go.WideShapes Go.ChangeAt Go.RowKit

section
variable {H : Type} {enc : TypeId × Value → H} {W : World} {r : Reach} {base b : Nat} {sp : Nat → Bool} {held : Bool} {t : TypeId} {n : Nat} {v : Value} {d : DataW H} {p : List MemPlace}
theorem open_bits (hok : Value.okWide Tryz.prog W r base 24 v) (h : DataW.Trod enc Tryz.prog W b sp held 24 v d p) : ∃ A, A < 2 ^ 256 ∧ v = A4 A ∧ p = [] := by
  obtain ⟨x, hx, rfl, hp⟩ := open_words Tryz.underlying24 (by kernel_rfl) hok h
  obtain ⟨A, hA, he, _⟩ := words_A4 hx
  exact ⟨A, hA, he, hp⟩
theorem bits_stay {W' : World} {sp' : Nat → Bool} (h : DataW.Trod enc Tryz.prog W 0 (fun _ => true) true 24 v d []) : DataW.Trod enc Tryz.prog W' 0 sp' true 24 v d [] :=
  WideElems.Trod_stays Tryz.laidOut (by kernel_rfl) (of_decide_eq_true (by kernel_rfl)) h (by simp) (by simp)
end
end Go.Proofs.YtplocajjfoiklaaGreatDoor

namespace Go.Proofs.YtplocajjfoiklaaGreatDoor
open Go.ChangeShapes Go.WideShapes Go.ChangeAt Go.RowKit

/-- Go's tables, as cells -/
def firstCells : Array Value := (((List.replicate 128 240 ++ List.replicate 66 241 ++ List.replicate 30 2 ++ [19] ++ List.replicate 12 3 ++ [35] ++ List.replicate 2 3 ++ [52] ++ List.replicate 3 4 ++ [68] ++ List.replicate 11 241 : List Int)).map fun n => Value.int .u8 n).toArray
def rangeCells : Array Value := ((([128, 191, 160, 191, 128, 159, 144, 191, 128, 143] ++ List.replicate 22 0 : List Int)).map fun n => Value.int .u8 n).toArray
def db32Cells : Array Value := (([0, 1, 28, 2, 29, 14, 24, 3, 30, 22, 20, 15, 25, 17, 4, 8, 31, 27, 13, 23, 21, 19, 16, 7, 26, 12, 18, 6, 11, 5, 10, 9] : List Int).map fun n => Value.int .u8 n).toArray
def db64Cells : Array Value := ((([0, 1, 56, 2, 57, 49, 28, 3, 61, 58, 42, 50, 38, 29, 17, 4, 62, 47, 59, 36, 45, 43, 51, 22, 53, 39, 33, 30, 24, 18, 12, 5] ++ [63, 55, 48, 27, 60, 41, 37, 16, 46, 35, 44, 21, 52, 32, 23, 11, 54, 26, 40, 15, 34, 20, 31, 10, 25, 14, 19, 9, 13, 8, 7, 6] : List Int)).map fun n => Value.int .u8 n).toArray
def pow10Cells : Array Value := ((List.range 20).map fun k => Value.int .u64 ((10 ^ k : Nat) : Int)).toArray
noncomputable def laidWorld8 (os : Os) : World :=
  { World.holding Tryz.prog os ⟨#[], #[], []⟩ with heap := ((((((World.holding Tryz.prog os ⟨#[], #[], []⟩).heap.modify 0 (layCells tabCells)).modify 3 (layCells pow10Cells)).modify 6 (layCells db32Cells)).modify 7 (layCells db64Cells)).modify 8 (layCells firstCells)).modify 9 (layCells rangeCells) }
theorem laid_tail {P : Program} {W : World} {x : String × DataW Unit} {r : List (String × DataW Unit)} (h : laidMet P (x :: r) W) : laidMet P r W := by
  obtain ⟨ps, ⟨g, t, cs, fuel, p, q, _, _, _, _, hr, rfl⟩, hn, hc⟩ := h
  refine ⟨q, hr, ?_, fun b off hm => hc b off (by simp [hm])⟩
  exact (List.nodup_append.1 hn).2.1
theorem pw10_of_list {W : World} {x y : String × DataW Unit} {r : List (String × DataW Unit)} (h : laidMet Tryz.prog (x :: y :: ("internal/strconv.uint64pow10", Lib.tabData .u64 Lib.pow10Tab) :: r) W) : Tb10 W :=
  Lib.tabIs_of_head (P := Tryz.prog) (name := "internal/strconv.uint64pow10") (k := .u64) (zs := Lib.pow10Tab) (g := 3) (t := 222) (e := 22) (n := 20) (by kernel_rfl) (by kernel_rfl) (by kernel_rfl) (by kernel_rfl) (by kernel_rfl) (by kernel_rfl) (laid_tail (laid_tail h))
theorem tab_of_list {W : World} {x0 x1 x2 x3 : String × DataW Unit} {r : List (String × DataW Unit)} (h : laidMet Tryz.prog (x0 :: x1 :: x2 :: x3 :: ("caliper/desc.rows", Rows.laid_caliper_desc_rows) :: r) W) : Tab W :=
  tab_of_laid (laid_tail (laid_tail (laid_tail (laid_tail h))))
section
variable {H : Type} {enc : TypeId × Value → H} {W : World} {r : Reach} {base b : Nat} {sp : Nat → Bool} {held : Bool} {t : TypeId} {n : Nat} {v : Value} {d : DataW H} {p : List MemPlace}
end
end Go.Proofs.YtplocajjfoiklaaGreatDoor

namespace Go.Proofs.YtplocajjfoiklaaGreatDoor
open Go.ChangeShapes Go.WideShapes Go.ChangeAt Go.RowKit

/-- the two errors' texts -/
def rangeText : List UInt8 := [118, 97, 108, 117, 101, 32, 111, 117, 116, 32, 111, 102, 32, 114, 97, 110, 103, 101]
def formText : List UInt8 := [105, 110, 118, 97, 108, 105, 100, 32, 115, 121, 110, 116, 97, 120]
noncomputable def laidWorld9 (os : Os) : World :=
  { laidWorld8 os with heap := ((((laidWorld8 os).heap.modify 5 (layCells #[.iface 259 (.pointer (some ⟨(laidWorld8 os).heap.size, 0, none⟩))])).modify 4 (layCells #[.iface 259 (.pointer (some ⟨(laidWorld8 os).heap.size + 1, 0, none⟩))])).push (.cells #[.string ⟨rangeText.toArray⟩] 261)).push (.cells #[.string ⟨formText.toArray⟩] 261) }
theorem tz_of_list {W : World} {x : String × DataW Unit} {r : List (String × DataW Unit)} (h : laidMet Tryz.prog (x :: ("math/bits.deBruijn64tab", Lib.tabData .u8 tzTab) :: r) W) : TbZ W :=
  Lib.tabIs_of_head (P := Tryz.prog) (name := "math/bits.deBruijn64tab") (k := .u8) (zs := tzTab) (g := 7) (t := 254) (e := 5) (n := 64) (by kernel_rfl) (by kernel_rfl) (by kernel_rfl) (by kernel_rfl) (by kernel_rfl) (by kernel_rfl) (laid_tail h)
theorem tab_of_list6 {W : World} {x0 x1 x2 x3 x4 x5 : String × DataW Unit} {r : List (String × DataW Unit)} (h : laidMet Tryz.prog (x0 :: x1 :: x2 :: x3 :: x4 :: x5 :: ("caliper/desc.rows", Rows.laid_caliper_desc_rows) :: r) W) : Tab W :=
  tab_of_laid (laid_tail (laid_tail (laid_tail (laid_tail (laid_tail (laid_tail h))))))
end Go.Proofs.YtplocajjfoiklaaGreatDoor

set_option maxRecDepth 20000
namespace Go.Proofs.YtplocajjfoiklaaGreatDoor
open Go.RowKit

theorem xB_tl (y : UInt8) (z : List UInt8) : (B (y :: z)).extract 1 (z.length + 1) = B z := by
  have := B_tail y z
  rw [B_size, List.length_cons] at this
  exact this
theorem xIDX0 (y : UInt8) (z : List UInt8) : ∀ h : 0 < (B (y :: z)).size, (((B (y :: z))[0]'h).toNat : Int) = ((y.toNat : Nat) : Int) := IDX_get (l := y :: z) (i := 0) rfl
theorem xIDX1 (x y : UInt8) (z : List UInt8) : ∀ h : 1 < (B (x :: y :: z)).size, (((B (x :: y :: z))[1]'h).toNat : Int) = ((y.toNat : Nat) : Int) := IDX_get (l := x :: y :: z) (i := 1) rfl
theorem u8_ne {y u : UInt8} (c : Int) (hu : ((u.toNat : Nat) : Int) = c) (h : ¬ y = u) : ((((y.toNat : Nat) : Int)) == c) = false ∧ ((((y.toNat : Nat) : Int)) != c) = true ∧ ¬ ((y.toNat : Nat) : Int) = c := by
  have hn : ¬ ((y.toNat : Nat) : Int) = c := fun e => h (UInt8.toNat_inj.1 (by omega))
  exact ⟨beq_eq_false_iff_ne.2 hn, by simp only [bne_iff_ne, ne_eq]; exact hn, hn⟩
section
set_option maxHeartbeats 2000000
theorem xsign_any (l : List UInt8) (w : World) (hs : l.length ≤ 10000) : Calls Tryz.prog 70 #[.string (B l)] w fun e w' => e = .returned (.tuple #[.bool (gsgB l), .string (B (sgR l))]) ∧ Below w.heap.size w w' := by
  have htl := B_toList
  cases l with
  | nil =>
    have hsz : (B []).size = 0 := rfl
    go_enter Tryz.func70, Tryz.ntmps70
    go_wp2
    go_ret2
    exact ⟨rfl, Below.refl _ _⟩
  | cons c r =>
    have hsz : (B (c :: r)).size = r.length + 1 := B_size _
    have hbt := xB_tl c r
    have hsb := xIDX0 c r
    have hcb := c.toNat_lt
    rw [List.length_cons] at hs
    have hri : (r.length : Int) ≤ 10000 := by omega
    by_cases h45 : (c.toNat : Int) = 45
    · have e1 : gsgB (c :: r) = true := decide_eq_true h45
      have e2 : sgR (c :: r) = r := if_pos (Or.inl h45)
      rw [e1, e2]
      go_enter Tryz.func70, Tryz.ntmps70
      go_wp2
      go_quiet (fail)
      go_wp2
      go_ret2
      exact ⟨rfl, gbelow_drewN (Below.refl _ _)⟩
    · by_cases h43 : (c.toNat : Int) = 43
      · have e1 : gsgB (c :: r) = false := decide_eq_false h45
        have e2 : sgR (c :: r) = r := if_pos (Or.inr h43)
        rw [e1, e2]
        go_enter Tryz.func70, Tryz.ntmps70
        go_wp2
        go_quiet (fail)
        go_wp2
        go_ret2
        exact ⟨rfl, gbelow_drewN (Below.refl _ _)⟩
      · have e1 : gsgB (c :: r) = false := decide_eq_false h45
        have e2 : sgR (c :: r) = c :: r := if_neg (fun h => h.elim h45 h43)
        have n45 : ((c.toNat : Int) == 45) = false := by rw [beq_eq_false_iff_ne]; exact h45
        have n43 : ((c.toNat : Int) == 43) = false := by rw [beq_eq_false_iff_ne]; exact h43
        rw [e1, e2]
        go_enter Tryz.func70, Tryz.ntmps70
        go_wp2
        go_ret2
        exact ⟨rfl, Below.refl _ _⟩
/-- what stands behind 0x -/
def xmkB : List UInt8 → Bool
  | c :: y :: _ => decide (c = 48) && decide (y = 120 ∨ y = 88)
  | _ => false
def xmkR : List UInt8 → List UInt8
  | c :: y :: z => if xmkB (c :: y :: z) then z else c :: y :: z
  | l => l
theorem xmark_any (l : List UInt8) (w : World) (hs : l.length ≤ 10000) : Calls Tryz.prog 71 #[.string (B l)] w fun e w' => e = .returned (.tuple #[.string (B (xmkR l)), .bool (xmkB l)]) ∧ Below w.heap.size w w' := by
  have htl := B_toList
  match l, hs with
  | [], _ =>
    have hsz : (B []).size = 0 := rfl
    go_enter Tryz.func71, Tryz.ntmps71
    go_wp2
    go_ret2
    exact ⟨rfl, Below.refl _ _⟩
  | [c], _ =>
    have hsz : (B [c]).size = 1 := rfl
    go_enter Tryz.func71, Tryz.ntmps71
    go_wp2
    go_ret2
    exact ⟨rfl, Below.refl _ _⟩
  | c :: y :: z, hs =>
    have hsz : (B (c :: y :: z)).size = z.length + 2 := B_size _
    have hbt : (B (c :: y :: z)).extract 2 (z.length + 2) = B z := by
      have := B_drop (c :: y :: z) 2
      rw [hsz] at this
      exact this
    have hsb := xIDX0 c (y :: z)
    have hsb1 := xIDX1 c y z
    have hcb := c.toNat_lt
    have hyb := y.toNat_lt
    rw [List.length_cons, List.length_cons] at hs
    have hri : (z.length : Int) ≤ 10000 := by omega
    by_cases h48 : c = 48
    · have n48 : (c.toNat : Int) = 48 := by rw [h48]; rfl
      by_cases h120 : y = 120
      · have n120 : (y.toNat : Int) = 120 := by rw [h120]; rfl
        have e1 : xmkB (c :: y :: z) = true := by unfold xmkB; simp [h48, h120]
        have e2 : xmkR (c :: y :: z) = z := if_pos e1
        rw [e1, e2]
        clear h48 h120 e1 e2
        go_enter Tryz.func71, Tryz.ntmps71
        go_wp2
        go_ret2
        exact ⟨rfl, Below.refl _ _⟩
      · obtain ⟨n120, b120, m120⟩ := u8_ne 120 rfl h120
        by_cases h88 : y = 88
        · have n88 : (y.toNat : Int) = 88 := by rw [h88]; rfl
          have e1 : xmkB (c :: y :: z) = true := by unfold xmkB; simp [h48, h88]
          have e2 : xmkR (c :: y :: z) = z := if_pos e1
          rw [e1, e2]
          clear h48 h120 h88 e1 e2
          go_enter Tryz.func71, Tryz.ntmps71
          go_wp2
          go_ret2
          exact ⟨rfl, Below.refl _ _⟩
        · obtain ⟨n88, b88, m88⟩ := u8_ne 88 rfl h88
          have e1 : xmkB (c :: y :: z) = false := by unfold xmkB; simp [h120, h88]
          have e2 : xmkR (c :: y :: z) = c :: y :: z := if_neg (by rw [e1]; decide)
          rw [e1, e2]
          clear h48 h120 h88 e1 e2
          go_enter Tryz.func71, Tryz.ntmps71
          go_wp2
          go_ret2
          exact ⟨rfl, Below.refl _ _⟩
    · obtain ⟨n48, b48, m48⟩ := u8_ne 48 rfl h48
      have e1 : xmkB (c :: y :: z) = false := by unfold xmkB; simp [h48]
      have e2 : xmkR (c :: y :: z) = c :: y :: z := if_neg (by rw [e1]; decide)
      rw [e1, e2]
      clear h48 e1 e2
      go_enter Tryz.func71, Tryz.ntmps71
      go_wp2
      go_ret2
      exact ⟨rfl, Below.refl _ _⟩
theorem xdig_any (l : List UInt8) (w : World) (hs : l.length ≤ 10000) : Calls Tryz.prog 72 #[.string (B l)] w fun e w' => e = .returned (.tuple #[.string (B (l.takeWhile hxc)), .string (B (l.dropWhile hxc))]) ∧ Below w.heap.size w w' := by
  have c := fun W => trimx_any l W
  have h0 := List.takeWhile_append_dropWhile (p := hxc) (l := l)
  have hl : (l.takeWhile hxc).length + (l.dropWhile hxc).length = l.length := by
    have := congrArg List.length h0
    rwa [List.length_append] at this
  have hx : (B l).extract 0 (l.takeWhile hxc).length = B (l.takeWhile hxc) := by
    rw [B_ext, List.drop_zero]
    congr 1
    have : (l.takeWhile hxc ++ l.dropWhile hxc).take (l.takeWhile hxc).length = l.takeWhile hxc := List.take_left
    rwa [h0] at this
  have z1 : (B l).size = l.length := B_size l
  have z2 : (B (l.dropWhile hxc)).size = (l.dropWhile hxc).length := B_size _
  clear h0
  generalize l.takeWhile hxc = T at *
  generalize l.dropWhile hxc = D at *
  obtain ⟨n, hn⟩ : ∃ n, T.length = n := ⟨_, rfl⟩
  obtain ⟨m, hm⟩ : ∃ m, D.length = m := ⟨_, rfl⟩
  rw [hn] at hx hl
  rw [hm] at z2 hl
  rw [← hl] at z1 hs
  clear hl hn hm
  have e : ((n + m : Nat) : Int) - m = n := by omega
  have hni : (n : Int) ≤ 10000 := by omega
  have hmi : (m : Int) ≤ 10000 := by omega
  generalize B D = bd at *
  generalize B T = bt at *
  go_enter Tryz.func72, Tryz.ntmps72
  go_wp2_with (go_at_call 126; refine (c _).mono ?_; rintro r w1 ⟨rfl, hb1⟩)
  go_ret2
  exact ⟨rfl, hb1⟩
end
end Go.Proofs.YtplocajjfoiklaaGreatDoor

namespace Go.Proofs.YtplocajjfoiklaaGreatDoor
open Go.RowKit

section
set_option maxHeartbeats 2000000
theorem xexp_p (y : UInt8) (z : List UInt8) (w : World) (hs : z.length ≤ 3998) (hy : (y.toNat : Int) = 112 ∨ (y.toNat : Int) = 80) (X : Int) (b : Bool) (C : Int) (g : Bool) (D : List UInt8) (E : Int)
    (c36 : ∀ W, Calls Tryz.prog 36 #[.string (B (48 :: 101 :: z))] W fun e w' => e = .returned (.tuple #[PV C false g D X, .int .i64 E]) ∧ Below W.heap.size W w') (hb : (E == 0) = b) :
    Calls Tryz.prog 74 #[.string (B (y :: z))] w fun e w' => e = .returned (.tuple #[.int .i64 X, .bool b]) ∧ Below w.heap.size w w' := by
  have htl := B_toList
  have hsz : (B (y :: z)).size = z.length + 1 := B_size _
  have hbt := xB_tl y z
  have hsb := xIDX0 y z
  have hyb := y.toNat_lt
  have p0 : (⟨#[48, 101]⟩ : ByteArray) ++ B z = B (48 :: 101 :: z) := B_app [48, 101] z
  have hzz : (B z).size = z.length := B_size z
  have hri : (z.length : Int) ≤ 3998 := by omega
  have hsm := gcell_set_map
  unfold PV at c36
  generalize B (48 :: 101 :: z) = bz at *
  rcases hy with hy | hy
  · go_enter Tryz.func74, Tryz.ntmps74
    go_wp2_with (go_at_call 36; refine (c36 _).mono ?_; rintro r w1 ⟨rfl, hb1⟩; have hs1 := hb1.size)
    go_ret2
    exact ⟨by rw [← hb]; rfl, bgo⟩
  · go_enter Tryz.func74, Tryz.ntmps74
    go_wp2_with (go_at_call 36; refine (c36 _).mono ?_; rintro r w1 ⟨rfl, hb1⟩; have hs1 := hb1.size)
    go_ret2
    exact ⟨by rw [← hb]; rfl, bgo⟩
theorem xexp_n (y : UInt8) (z : List UInt8) (w : World) (hs : z.length ≤ 3998) (h1 : ¬ y = 112) (h2 : ¬ y = 80) :
    Calls Tryz.prog 74 #[.string (B (y :: z))] w fun e w' => e = .returned (.tuple #[.int .i64 0, .bool false]) ∧ Below w.heap.size w w' := by
  have htl := B_toList
  have hsz : (B (y :: z)).size = z.length + 1 := B_size _
  have hsb := xIDX0 y z
  have hyb := y.toNat_lt
  have hri : (z.length : Int) ≤ 3998 := by omega
  obtain ⟨n1, b1, m1⟩ := u8_ne 112 rfl h1
  obtain ⟨n2, b2, m2⟩ := u8_ne 80 rfl h2
  clear h1 h2
  go_enter Tryz.func74, Tryz.ntmps74
  go_wp2
  go_ret2
  exact ⟨rfl, Below.refl _ _⟩
theorem xexp_0 (w : World) : Calls Tryz.prog 74 #[.string (B [])] w fun e w' => e = .returned (.tuple #[.int .i64 0, .bool false]) ∧ Below w.heap.size w w' := by
  have htl := B_toList
  have hsz : (B []).size = 0 := rfl
  go_enter Tryz.func74, Tryz.ntmps74
  go_wp2
  go_ret2
  exact ⟨rfl, Below.refl _ _⟩
end
theorem xexp_any (l : List UInt8) (w : World) (hs : l.length ≤ 3999) : Calls Tryz.prog 74 #[.string (B l)] w fun e w' => e = .returned (.tuple #[.int .i64 ((hpx l).getD 0), .bool (hpx l).isSome]) ∧ Below w.heap.size w w' := by
  cases l with
  | nil => exact xexp_0 w
  | cons y z =>
    rw [List.length_cons] at hs
    by_cases hp : y = 112 ∨ y = 80
    · have hc := cut_0e (z := z) (by omega)
      have c36 := fun W => cut_any (48 :: 101 :: z) W (by simp only [List.length_cons]; omega)
      have hy : (y.toNat : Int) = 112 ∨ (y.toNat : Int) = 80 := by rcases hp with rfl | rfl <;> decide
      by_cases hi : isd (sgR z) = true
      · rw [if_pos hi] at hc
        obtain ⟨e1, e2⟩ := cutE_some hc
        rw [e1, e2] at c36
        have e3 : hpx (y :: z) = some (clampE (exS z)) := if_pos ⟨hp, hi⟩
        rw [e3]
        exact xexp_p y z w (by omega) hy _ true _ _ _ _ c36 rfl
      · rw [if_neg hi] at hc
        have e1 : cutV (48 :: 101 :: z) = Prt.zero := by unfold cutV; rw [hc]; rfl
        have e2 : cutE (48 :: 101 :: z) = 2 := by
          unfold cutE
          rw [if_neg (by simp only [List.length_cons]; omega), hc]
          rfl
        rw [e1, e2] at c36
        have e3 : hpx (y :: z) = none := if_neg fun h => hi h.2
        rw [e3]
        exact xexp_p y z w (by omega) hy _ false _ _ _ _ c36 rfl
    · have e3 : hpx (y :: z) = none := if_neg fun h => hp h.1
      rw [e3]
      exact xexp_n y z w (by omega) (fun h => hp (Or.inl h)) (fun h => hp (Or.inr h))
/-- appending a word to a row of one's own -/
theorem nat_step {D : List UInt8} {e : Nat} (he : e ≤ D.length) (h0 : 0 < e) : hxV (sml (D.drop (e - 16))) = hxV (sml ((D.take e).drop (e - 16))) * 16 ^ (D.length - e) + hxV (sml (D.drop e)) := by
  have e1 : D.drop (e - 16) = (D.take e).drop (e - 16) ++ D.drop e := by
    have h1 : D = D.take e ++ D.drop e := (List.take_append_drop e D).symm
    have h2 : (D.take e ++ D.drop e).drop (e - 16) = (D.take e).drop (e - 16) ++ D.drop e := by
      rw [List.drop_append_of_le_length (by rw [List.length_take]; omega)]
    rwa [← h1] at h2
  rw [e1, sml_app, hxV_app, sml_len, List.length_drop]
end Go.Proofs.YtplocajjfoiklaaGreatDoor

namespace Go.Proofs.YtplocajjfoiklaaGreatDoor
open Go.RowKit

theorem own_belT {w w' : World} {base n : Nat} {t : TypeId} {v : Value} {xs : List Value} (h : w.ownsRow base t 1 v n xs) (hB : Below w.heap.size w w') : w'.ownsRow base t 1 v n xs := by
  obtain ⟨h1, h2⟩ := h
  refine ⟨h1, ?_⟩
  rcases h2 with h2 | ⟨g', cap, cur, e, hb, hh, r⟩
  · exact Or.inl h2
  · have hg : g' < w.heap.size := by
      rcases Nat.lt_or_ge g' w.heap.size with h' | h'
      · exact h'
      · rw [Array.getElem?_eq_none h'] at hh; cases hh
    exact Or.inr ⟨g', cap, cur, e, hb, (hB.block g' hg).trans hh, r⟩
theorem nt_upd {K V g : Nat} {a : Option Addr} {k p : Nat} {w w' : World} (h : Nt K V (.slice a k p) w) (ha : Apart a g) (hU : Upd g w w') : Nt K V (.slice a k p) w' := by
  obtain ⟨a0, k0, p0, z, e, h1, h2, h3⟩ := h
  cases e
  exact ⟨_, _, _, z, rfl, h1, hU.num' ha h2, h3⟩
theorem p1616 (j : Nat) : (18446744073709551616 : Int) ^ j = ((16 ^ (16 * j) : Nat) : Int) := by
  rw [Nat.pow_mul, show (16 : Nat) ^ 16 = 18446744073709551616 by decide]
  simp
theorem news1u (W : World) (V : Nat) : ∀ (q : Nat) (u : Value), [Value.int .u64 (V : Int)][q]? = some u → (W.alloc (.cells #[.int .u64 (V : Int)] 22)).cell? ((⟨W.heap.size, 0, none⟩ : Addr).add q) = some u := by
  intro q u hq
  match q, hq with
  | 0, hq => simp at hq; subst hq; simp [Addr.add]
theorem one1u (V : Nat) : ∀ u ∈ [Value.int .u64 (V : Int)], u.oneCell' = true := by
  intro u hu; simp at hu; subst hu; rfl
set_option maxHeartbeats 4000000 in
theorem xnat_v (D : List UInt8) (hD : D.all hxc = true) (hl : D.length ≤ 4000) (w : World) : Calls Tryz.prog 75 #[.string (B D)] w fun e w' => ∃ a0 k0 p0, e = .returned (.slice a0 k0 p0) ∧ Nt 300 (hxV (sml D)) (.slice a0 k0 p0) w' ∧ (∀ g, g < w.heap.size → Apart a0 g) ∧ Below w.heap.size w w' := by
  obtain ⟨L, hL⟩ : ∃ L, D.length = L := ⟨_, rfl⟩
  have hsz : (B D).size = L := by rw [B_size, hL]
  rw [hL] at hl
  have hli : (L : Int) ≤ 4000 := by omega
  have HC : Hid (∀ e, e ≤ L → 0 < e → ((D.take e).drop (e - 16)).all hxc = true ∧ (D.take e).drop (e - 16) ≠ [] ∧ ((D.take e).drop (e - 16)).length ≤ 16 ∧ (B D).extract (e - 16) e = B ((D.take e).drop (e - 16))) := fun e h1 h2 => by
    have hlen : ((D.take e).drop (e - 16)).length = e - (e - 16) := by rw [List.length_drop, List.length_take]; omega
    refine ⟨List.all_eq_true.2 fun y hy => List.all_eq_true.1 hD y (List.mem_of_mem_take (List.mem_of_mem_drop hy)), fun h => ?_, by omega, B_ext D _ _⟩
    rw [h] at hlen
    simp at hlen
    omega
  have HS : Hid (∀ e, e ≤ L → 0 < e → hxV (sml (D.drop (e - 16))) = hxV (sml ((D.take e).drop (e - 16))) * 16 ^ (L - e) + hxV (sml (D.drop e))) := fun e h1 h2 => by
    have := nat_step (D := D) (e := e) (by omega) h2
    rwa [hL] at this
  have HV : Hid (∀ C : List UInt8, C.all hxc = true → C.length ≤ 16 → hxV (sml C) < 18446744073709551616) := fun C h1 h2 => by
    have h3 := hxV_lt (hxc_all_sml h1)
    rw [sml_len] at h3
    have h4 : 16 ^ C.length ≤ 16 ^ 16 := Nat.pow_le_pow_right (by decide) h2
    have h5 : (16 : Nat) ^ 16 = 18446744073709551616 := by decide
    omega
  have H0 : Hid (hxV (sml (D.drop L)) = 0 ∧ hxV (sml (D.drop 0)) = hxV (sml D)) := by
    refine ⟨?_, rfl⟩
    rw [List.drop_eq_nil_of_le (by omega)]
    rfl
  obtain ⟨i0, hi, hz0, hz1, hz2⟩ := info_parts Tryz.info22
  clear hD hL
  go_enter Tryz.func75, Tryz.ntmps75
  go_wp2
  go_loopw [3, 4] (fun t3 t4 wr => ∃ (j : Nat) (ao : Option Addr) (cp : Nat) (z : Nat → Int), 16 * j ≤ L + 15 ∧ t4 = .int .i64 ((L : Int) - 16 * j) ∧ t3 = .slice ao j cp ∧ wr.ownsRow w.heap.size 22 1 (.slice ao j cp) j (wl z j) ∧ Words z ∧ (∀ i, j ≤ i → z i = 0) ∧ val z j = (hxV (sml (D.drop (L - 16 * j))) : Int) ∧ Below w.heap.size w wr) (fun _ t4 _ => (intOf t4).toNat)
  case atStart => exact ⟨0, none, 0, fun _ => 0, by omega, by go_num, rfl, World.ownsRow_nil _ _ _ _, fun _ => (by decide : (0 : Int) ≤ 0 ∧ (0 : Int) ≤ 18446744073709551615), fun _ _ => rfl, by rw [Nat.mul_zero, Nat.sub_zero, H0.out.1]; rfl, Below.refl _ _⟩
  case round =>
    obtain ⟨j, ao, cp, z, hj, ht4, rfl, hown, hzw, hzz, hv, hB⟩ := hrel
    by_cases hlt : 16 * j < L
    · obtain ⟨e, he⟩ : ∃ e, L - 16 * j = e := ⟨_, rfl⟩
      rw [show (L : Int) - 16 * j = e by omega] at ht4
      subst ht4
      rw [he] at hv
      obtain ⟨f, hf⟩ : ∃ f, e - 16 = f := ⟨_, rfl⟩
      obtain ⟨c1, c2, c3, c4⟩ := HC.out e (by omega) (by omega)
      have hst := HS.out e (by omega) (by omega)
      rw [hf] at c1 c2 c3 c4 hst
      have hVb := HV.out _ c1 c3
      have cP := fun W => puint_v _ c1 c2 c3 W
      have hsl : ∀ W, (Instr.slice 9 (Value.string (B D)) (some (.int .i64 (f : Int))) (some (.int .i64 (e : Int))) none).run Tryz.prog W = .ok (.string (B ((D.take e).drop f))) W := fun W => by
        rw [run_slice_string W 9 _ _ _ _ _ Tryz.underlying9 (by omega) (by omega) (by rw [hsz]; omega)]
        rw [Int.toNat_natCast, Int.toNat_natCast, c4]
      have hmx : max 0 ((e : Int) - 16) = (f : Int) := by omega
      have hei : 0 < (e : Int) := by omega
      have hei2 : (e : Int) ≤ 4000 := by omega
      have hbw := hB.size
      generalize (D.take e).drop f = C at *
      obtain ⟨V, hV⟩ : ∃ V, hxV (sml C) = V := ⟨_, rfl⟩
      rw [hV] at hst hVb cP
      generalize B C = bc at *
      have HO : ∀ W, Below wr.heap.size wr W → W.ownsRow w.heap.size 22 1 (.slice ao j cp) j (wl z j) := fun W hW => own_belT hown hW
      have HOF : Hid (∀ q, (Value.slice ao j cp).ownBlock = some q → w.heap.size ≤ q) := owns_form hown
      have HB : Hid (Below w.heap.size w wr) := hB
      have HZ : Hid (Words z ∧ ∀ i, j ≤ i → z i = 0) := ⟨hzw, hzz⟩
      have HVAL : Hid (val z j = (hxV (sml (D.drop e)) : Int)) := hv
      have HST : Hid (hxV (sml (D.drop f)) = V * 16 ^ (L - e) + hxV (sml (D.drop e))) := hst
      have HEQ : Hid (L - e = 16 * j ∧ L - 16 * (j + 1) = f ∧ 16 * j + e = L) := ⟨by omega, by omega, by omega⟩
      clear hown hB hzw hzz hv hst c1 c2 c3 c4 hV he hf
      go_wp2_with (first
        | (go_at_call 128; refine (cP _).mono ?_; rintro r w5 ⟨rfl, hb5⟩; have hs5 := hb5.size; have HOWN : (w5.alloc (.cells #[.int .u64 (V : Int)] 22)).ownsRow w.heap.size 22 1 (.slice ao j cp) j (wl z j) := (HO w5 hb5).alloc _; have HNEWS : ∀ (q : Nat) (u : Value), [Value.int .u64 (V : Int)][q]? = some u → (w5.alloc (.cells #[.int .u64 (V : Int)] 22)).cell? ((⟨w5.heap.size, 0, none⟩ : Addr).add q) = some u := news1u w5 V; have HONE : ∀ u ∈ [Value.int .u64 (V : Int)], u.oneCell' = true := one1u V)
        | (at_builtin; refine wpList_append_lies _ rfl (.tmp 23) (.tmp 25) 49 rfl w.heap.size 22 i0 (.int .u64 0) 1 8 Tryz.underlying49 hi hz0 hz1 hz2 rfl (by decide) (.slice ao j cp) j (wl z j) rfl HOWN ⟨w5.heap.size, 0, none⟩ 1 1 [Value.int .u64 (V : Int)] rfl rfl HNEWS HONE (by omega) (by unfold maxLen; omega) (by omega) (by simp; omega) (w5.heap.size + 1) (by simp) ?_; intro g cap w6 hown6 hgrow hat hlt6; clear HOWN HNEWS HONE))
      go_roundw
      case rel =>
        obtain ⟨q1, q2, q3⟩ := HEQ.out
        refine ⟨j + 1, some ⟨g, 0, none⟩, cap, fun i => if i = j then (V : Int) else z i, by omega, by go_num, rfl, ?_, ?_, ?_, ?_, ?_⟩
        · have e2 : wl (fun i => if i = j then (V : Int) else z i) (j + 1) = wl z j ++ [Value.int .u64 (V : Int)] := by
            rw [← wl_succ, if_pos rfl]
            congr 1
            exact wl_congr j fun i hi => if_neg (by omega)
          rw [e2]
          exact hown6
        · intro i
          show 0 ≤ (if i = j then (V : Int) else z i) ∧ (if i = j then (V : Int) else z i) ≤ _
          split
          · omega
          · exact HZ.out.1 i
        · intro i hi
          exact (if_neg (by omega)).trans (HZ.out.2 i (by omega))
        · show val (fun i => if i = j then (V : Int) else z i) j + (if j = j then (V : Int) else z j) * 18446744073709551616 ^ j = _
          rw [if_pos rfl, val_congr (x := fun i => if i = j then (V : Int) else z i) (y := z) j (fun i hi => if_neg (by omega)), HVAL.out, q2, HST.out, q1, p1616]
          rw [Int.natCast_add, Int.natCast_mul]
          omega
        · exact HB.out.trans ((((hb5.mono (Nat.le_refl _)).alloc hs5 _).mono hbw).grown hgrow (by simp; omega) HOF.out)
      case measure => simp [intOf]; omega
    · have HN : Hid (Nt 300 (hxV (sml D)) (.slice ao j cp) wr) := by
        refine ⟨ao, j, cp, z, rfl, by omega, num_of_owns' hzw hzz hown, ?_⟩
        rw [hv, show L - 16 * j = 0 by omega, H0.out.2]
      have HOF : Hid (∀ q, (Value.slice ao j cp).ownBlock = some q → w.heap.size ≤ q) := owns_form hown
      have HB : Hid (Below w.heap.size w wr) := hB
      have hle : ((L : Int) - 16 * j) ≤ 0 := by omega
      have hle2 : -100 ≤ ((L : Int) - 16 * j) := by omega
      subst ht4
      clear hown hzw hzz hv hB
      go_wp2
      go_ret
      refine ⟨ao, j, cp, rfl, HN.out, fun g hg => ?_, HB.out⟩
      intro p hp e
      subst hp
      have := HOF.out p.block rfl
      omega
end Go.Proofs.YtplocajjfoiklaaGreatDoor
