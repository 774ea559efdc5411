/-
  Texts that the proof leans on, joined: Mb, Mc, Md, Sd9, Se9, Sj9, Sk9, Sl9, Su9, Me.
-/
import Derived.Test.YtplocajjfoiklaaGreatDoorR20
import Derived.Lib.LaidTab
import Derived.Test.YtplocajjfoiklaaGreatDoorR38
import Derived.Test.YtplocajjfoiklaaGreatDoorR25
import Derived.Test.YtplocajjfoiklaaGreatDoorR21
import Derived.Test.YtplocajjfoiklaaGreatDoorR1
import Derived.Test.YtplocajjfoiklaaGreatDoorR44
import Derived.Test.YtplocajjfoiklaaGreatDoorR34
import Derived.Test.YtplocajjfoiklaaGreatDoorR39
import Derived.Test.YtplocajjfoiklaaGreatDoorR9
import Derived.Laws.BytesArg
import Derived.Test.YtplocajjfoiklaaGreatDoorR29
import Derived.Test.YtplocajjfoiklaaGreatDoorR30
import Derived.Test.YtplocajjfoiklaaGreatDoorR37
set_option maxHeartbeats 8000000
set_option linter.unusedVariables false
set_option linter.unusedSectionVars false
set_option linter.unusedSimpArgs false
set_option maxRecDepth 100000
namespace Go.Proofs.YtplocajjfoiklaaGreatDoor
open Go.RowKit
def tzTab : List Int := [0, 1, 56, 2, 57, 49, 28, 3, 61, 58, 42, 50, 38, 29, 17, 4, 62, 47, 59, 36, 45, 43, 51, 22, 53, 39, 33, 30, 24, 18, 12, 5] ++ [63, 55, 48, 27, 60, 41, 37, 16, 46, 35, 44, 21, 52, 32, 23, 11, 54, 26, 40, 15, 34, 20, 31, 10, 25, 14, 19, 9, 13, 8, 7, 6]
def TbZ (w : World) : Prop := Lib.TabIs Tryz.prog w "math/bits.deBruijn64tab" .u8 tzTab
theorem TbZ.next {w w' : World} (h : TbZ w) (hb : Below w.heap.size w w') : TbZ w' := Lib.tabBelow_of_tabIs h w' hb
theorem TbZ.at {w : World} (h : TbZ w) : w.cell? ⟨7, 15, none⟩ = some (.int .u8 4) := by
 have := Lib.TabIs.cell h (g := 7) (by kernel_rfl) 15 (by decide)
 exact this
theorem own_bel {w w' : World} {base n : Nat} {v : Value} {xs : List Value} (h : w.ownsRow base 5 1 v n xs) (hB : Below w.heap.size w w') : w'.ownsRow base 5 1 v n xs := by
 obtain ⟨h1, h2⟩ := h
 refine ⟨h1, ?_⟩
 rcases h2 with h2 | ⟨g', cap, cur, e, hb, hh, r⟩
 ·exact Or.inl h2
 ·have hg : g' < w.heap.size := by
   rcases Nat.lt_or_ge g' w.heap.size with h' | h'
   ·exact h'
   ·rw [Array.getElem?_eq_none h'] at hh; cases hh
  exact Or.inr ⟨g', cap, cur, e, hb, (hB.block g' hg).trans hh, r⟩
theorem tz_v (w : World) (hT : TbZ w) : Calls Tryz.prog 235 #[.int .u64 16] w fun e w' => e = .returned (.int .i64 4) ∧ w = w' := by
 have hc := hT.at
 have h1 : bits BinOp.and IntKind.u64 16 18446744073709551600 = 16 := by decide
 have h2 : IntKind.u64.wrap (-16) = 18446744073709551600 := by decide
 have h3 : IntKind.u64.wrap 4573923408821661840 = 4573923408821661840 := by decide
 clear hT
 go_enter Tryz.func235, Tryz.ntmps235
 go_wp2
 go_ret
 exact ⟨rfl, rfl⟩
theorem tzu_v (w : World) (hT : TbZ w) : Calls Tryz.prog 208 #[.int .u64 16] w fun e w' => e = .returned (.int .i64 4) ∧ w = w' := by
 have c := tz_v w hT
 go_enter Tryz.func208, Tryz.ntmps208
 go_wp2_with (go_at_call 235; refine c.mono ?_; rintro e w' ⟨rfl, rfl⟩)
 go_ret
 exact ⟨rfl, rfl⟩
theorem ip_v (w : World) : Calls Tryz.prog 207 #[.int .i64 16] w fun e w' => e = .returned (.bool true) ∧ w = w' := by
 have hp : bits BinOp.and IntKind.i64 16 15 = 0 := by decide
 go_enter Tryz.func207, Tryz.ntmps207
 go_wp2
 go_ret
 exact ⟨rfl, rfl⟩
theorem hx36 (x : Nat) (hx : x < 16) : ∀ h : x < (⟨#[48, 49, 50, 51, 52, 53, 54, 55, 56, 57, 97, 98, 99, 100, 101, 102, 103, 104, 105, 106, 107, 108, 109, 110, 111, 112, 113, 114, 115, 116, 117, 118, 119, 120, 121, 122]⟩ : ByteArray).size, (((⟨#[48, 49, 50, 51, 52, 53, 54, 55, 56, 57, 97, 98, 99, 100, 101, 102, 103, 104, 105, 106, 107, 108, 109, 110, 111, 112, 113, 114, 115, 116, 117, 118, 119, 120, 121, 122]⟩ : ByteArray)[x]'h).toNat : Int) = (((hxd x).toNat : Nat) : Int) := by
 intro h
 have hor : x = 0 ∨ x = 1 ∨ x = 2 ∨ x = 3 ∨ x = 4 ∨ x = 5 ∨ x = 6 ∨ x = 7 ∨ x = 8 ∨ x = 9 ∨ x = 10 ∨ x = 11 ∨ x = 12 ∨ x = 13 ∨ x = 14 ∨ x = 15 := by omega
 rcases hor with rfl | rfl | rfl | rfl | rfl | rfl | rfl | rfl | rfl | rfl | rfl | rfl | rfl | rfl | rfl | rfl <;> rfl
theorem fbits_v (Bs : Nat) (v : Value) (l : List UInt8) (x : Nat) (hx : x < 16) (w : World) (hT : TbZ w) (hown : w.ownsRow Bs 5 1 v l.length (Lib.byteCells l)) (hb : Bs ≤ w.heap.size) (hl : l.length ≤ 1000) :
  Calls Tryz.prog 172 #[v, .int .u64 (x : Int), .int .i64 16, .bool false, .bool true] w fun e w' => ∃ v', e = .returned (.tuple #[v', .string ⟨#[]⟩]) ∧ w'.ownsRow Bs 5 1 v' (l ++ [hxd x]).length (Lib.byteCells (l ++ [hxd x])) ∧ Below Bs w w' := by
 have hix := hx36 x hx
 obtain ⟨c, hc⟩ : ∃ c : Int, (((hxd x).toNat : Nat) : Int) = c := ⟨_, rfl⟩
 rw [hc] at hix
 have hcb : 0 ≤ c ∧ c ≤ 255 := by have := (hxd x).toNat_lt; omega
 have hxi : (x : Int) < 16 := by omega
 have hp : bits BinOp.and IntKind.i64 16 15 = 0 := by decide
 have zs : Tryz.zeroCells224.size = 65 := by kernel_rfl
 have z64 : Tryz.zeroCells224[64]? = some (.int .u8 0) := by kernel_rfl
 have HB1 : Below w.heap.size w (w.alloc (.cells (Tryz.zeroCells224.setIfInBounds 64 (.int .u8 c)) 224)) := below1 _ _
 have hcT := tzu_v (w.alloc (.cells Tryz.zeroCells224 224)) (hT.next (below1 _ _))
 obtain ⟨i0, hi, hz0, hz1, hz2⟩ := info_parts Tryz.info5
 have HOWN := own_bel hown HB1
 have HCELL : (w.alloc (.cells (Tryz.zeroCells224.setIfInBounds 64 (.int .u8 c)) 224)).cell? ⟨w.heap.size, 64, none⟩ = some (.int .u8 c) := by
  simp [zs]
 have HNEWS : ∀ (q : Nat) (u : Value), [Value.int .u8 c][q]? = some u → (w.alloc (.cells (Tryz.zeroCells224.setIfInBounds 64 (.int .u8 c)) 224)).cell? ((⟨w.heap.size, 64, none⟩ : Addr).add q) = some u := by
  intro q u hq
  match q, hq with
  | 0, hq => simp at hq; subst hq; exact HCELL
 have HONE : ∀ u ∈ [Value.int .u8 c], u.oneCell' = true := by
  intro u hu; simp at hu; subst hu; rfl
 have HC : Hid ((((hxd x).toNat : Nat) : Int) = c) := hc
 have HX : Hid (∀ q, v.ownBlock = some q → Bs ≤ q) := fun q hq => (hown.lt q hq).1
 clear hc hown hT
 go_enter Tryz.func172, Tryz.ntmps172
 go_wp2_with (first
  | (go_at_call 207; refine (ip_v _).mono ?_; rintro e w' ⟨rfl, rfl⟩)
  | (go_at_call 208; refine hcT.mono ?_; rintro e w' ⟨rfl, rfl⟩))
 go_loop [1, 13] (fun t1 t13 => t1 = .int .u64 (x : Int) ∧ t13 = .int .i64 65) (fun _ _ => 0)
 case atStart => exact ⟨rfl, rfl⟩
 case round =>
  obtain ⟨rfl, rfl⟩ := hrel
  go_wp2_with (first
   | (at_builtin; refine wpList_append_lies _ rfl (.tmp 95) (.tmp 97) 81 rfl Bs 5 i0 (.int .u8 0) 1 1 Tryz.underlying81 hi hz0 hz1 hz2 rfl (by decide) v l.length (Lib.byteCells l) rfl HOWN ⟨w.heap.size, 64, none⟩ 1 1 [Value.int .u8 c] rfl rfl HNEWS HONE (by omega) (by unfold maxLen; omega) (by omega) (by simp; omega) (w.heap.size + 1) (by simp) ?_; intro g cap w1 hown1 hgrow hat hlt1; clear HOWN HNEWS HONE))
  go_wp2
  go_ret2
  refine ⟨_, rfl, ?_, ?_⟩
  ·have e := HC.out
   subst e
   rw [bc_one] at hown1
   exact hown1
  ·exact ((Below.refl _ w).alloc hb _).grown hgrow (by simp; omega) HX.out
theorem auint_in (Bs : Nat) (v : Value) (l : List UInt8) (x : Nat) (hx : x < 16) (w : World) (hT : TbZ w) (hown : w.ownsRow Bs 5 1 v l.length (Lib.byteCells l)) (hb : Bs ≤ w.heap.size) (hl : l.length ≤ 1000) :
  Calls Tryz.prog 161 #[v, .int .u64 (x : Int), .int .i64 16] w fun e w' => ∃ v', e = .returned v' ∧ w'.ownsRow Bs 5 1 v' (l ++ [hxd x]).length (Lib.byteCells (l ++ [hxd x])) ∧ Below Bs w w' := by
 have c := fbits_v Bs v l x hx w hT hown hb hl
 go_enter Tryz.func161, Tryz.ntmps161
 go_wp2_with (go_at_call 172; refine c.mono ?_; rintro e w' ⟨v', rfl, h1, h2⟩)
 go_ret
 exact ⟨v', rfl, h1, h2⟩
theorem auint_v (Bs : Nat) (v : Value) (l : List UInt8) (x : Nat) (hx : x < 16) (w : World) (hT : TbZ w) (hown : w.ownsRow Bs 5 1 v l.length (Lib.byteCells l)) (hb : Bs ≤ w.heap.size) (hl : l.length ≤ 1000) :
  Calls Tryz.prog 120 #[v, .int .u64 (x : Int), .int .i64 16] w fun e w' => ∃ v', e = .returned v' ∧ w'.ownsRow Bs 5 1 v' (l ++ [hxd x]).length (Lib.byteCells (l ++ [hxd x])) ∧ Below Bs w w' := by
 have c := auint_in Bs v l x hx w hT hown hb hl
 go_enter Tryz.func120, Tryz.ntmps120
 go_wp2_with (go_at_call 161; refine c.mono ?_; rintro e w' ⟨v', rfl, h1, h2⟩)
 go_ret
 exact ⟨v', rfl, h1, h2⟩
theorem lenL_bl {A : Nat} (hA : A < 2 ^ 256) : lenL (W4 A) 4 = (bl A : Int) := by
 have h0 : 0 ≤ lenL (W4 A) 4 := by
  by_cases h : lenL (W4 A) 4 = 0
  ·omega
  ·have h1 := len4_le (A := A) (k := 0) hA
   by_cases h2 : 0 < sizeL (W4 A) 4
   ·obtain ⟨L, h1, _⟩ := len_bd (W4_words A) h2
    omega
   ·exact absurd (by unfold lenL; rw [if_pos (by omega)]) h
 obtain ⟨L, hL⟩ := Int.eq_ofNat_of_zero_le h0
 have a1 := (len4_le (A := A) (k := L) hA).1 (by omega)
 have a2 := (len4_le (A := A) (k := bl A) hA).2 (bl_le.1 (Nat.le_refl _))
 have a3 := bl_le.2 a1
 omega
theorem hb_shift {k : Nat} (h : k ≠ 0) : k * 2 ^ (4 * hbC k - (bl k - 1)) = 16 ^ hbC k + hbR k := by
 have ht := hb_top h
 have hc := hbC_le k
 unfold hbR
 rw [p16, show (2 : Nat) ^ (4 * hbC k) = 2 ^ (bl k - 1) * 2 ^ (4 * hbC k - (bl k - 1)) by rw [← Nat.pow_add]; congr 1; omega, ← Nat.add_mul, ← ht]
theorem hb_nib {c R i : Nat} (hi : i < c) : (16 ^ c + R) / 16 ^ i % 16 = R / 16 ^ i % 16 := by
 obtain ⟨m, rfl⟩ : ∃ m, c = i + 1 + m := ⟨c - i - 1, by omega⟩
 rw [show (16 : Nat) ^ (i + 1 + m) = 16 ^ i * (16 * 16 ^ m) by rw [Nat.pow_add, Nat.pow_succ]; grind, Nat.mul_add_div (Nat.pow_pos (by decide)), Nat.mul_add_mod]
theorem nib_w (S q r : Nat) (hr : r < 16) : bits BinOp.and IntKind.u64 (W4 S q / 2 ^ (4 * r)) 15 = ((S / 16 ^ (16 * q + r) % 16 : Nat) : Int) := by
 have hw := W4_words S q
 have h1 : (0 : Int) ≤ W4 S q / 2 ^ (4 * r) := Int.ediv_nonneg hw.1 (Int.le_of_lt (Int.pow_pos (by decide)))
 have h2 : W4 S q / 2 ^ (4 * r) ≤ W4 S q := Int.ediv_le_self _ hw.1
 rw [show (15 : Int) = 2 ^ 4 - 1 by decide, and_mask ⟨h1, by omega⟩ (by decide)]
 unfold W4
 rw [show (2 : Int) ^ (4 * r) = ((2 ^ (4 * r) : Nat) : Int) by simp, ← Int.natCast_ediv, show (2 : Int) ^ 4 = ((16 : Nat) : Int) by decide, ← Int.natCast_emod]
 congr 1
 have e : (18446744073709551616 : Nat) = 2 ^ (4 * r) * (16 * 2 ^ (60 - 4 * r)) := by
  rw [show (16 : Nat) = 2 ^ 4 by decide, ← Nat.pow_add, ← Nat.pow_add, show 4 * r + (4 + (60 - 4 * r)) = 64 by omega]
 rw [e, Nat.mod_mul_right_div_self, Nat.mod_mul_right_mod, Nat.div_div_eq_div_mul, ← Nat.pow_add, p16]
 congr 3
 omega
theorem hxL_next {R c j : Nat} (h : j < c) : (hxL R c).take (j + 1) = (hxL R c).take j ++ [hxd (R / 16 ^ (c - 1 - j) % 16)] := by
 have h1 := hxL_get (N := R) h
 have h2 : j < (hxL R c).length := by rw [hxL_len]; exact h
 rw [List.getElem?_eq_getElem h2] at h1
 rw [List.take_succ_eq_append_getElem h2, Option.some.inj h1]
section
attribute [local irreducible] W4
theorem bh_v {k : Nat} (hk0 : k ≠ 0) (hk : bl k ≤ 241) (w : World) (hT : TbZ w) : Calls Tryz.prog 56 #[A4 k] w fun e w' => e = .returned (.string (B (hbD k))) ∧ Below w.heap.size w w' := by
 have hA : k < 2 ^ 256 := bl_le.1 (by omega)
 have hn1 : bl k ≠ 0 := fun e => hk0 (bl_zero.1 e)
 obtain ⟨n, hn⟩ : ∃ n, bl k = n := ⟨_, rfl⟩
 obtain ⟨c, hc⟩ : ∃ c, hbC k = c := ⟨_, rfl⟩
 obtain ⟨R, hR⟩ : ∃ R, hbR k = R := ⟨_, rfl⟩
 have hcn : c = (n - 1 + 3) / 4 := by rw [← hc, ← hn]; rfl
 obtain ⟨m, hm⟩ : ∃ m, 4 * c - (n - 1) = m := ⟨_, rfl⟩
 have hS := hb_shift hk0
 have HD : Hid (hbD k = hxS (hxL R c)) := by show _ = _; rw [← hR, ← hc]; rfl
 rw [hc, hn, hm, hR] at hS
 have c55 := fun W => len4' k W
 rw [lenL_bl hA, hn] at c55
 have c113 := fun W => shl4 k m W hA (by omega)
 rw [hS] at c113
 have HN : Hid (∀ i, i < c → (16 ^ c + R) / 16 ^ i % 16 = R / 16 ^ i % 16) := fun i hi => hb_nib hi
 obtain ⟨S, hSS⟩ : ∃ S, 16 ^ c + R = S := ⟨_, rfl⟩
 rw [hSS] at c113 HN
 rw [hn] at hk hn1
 have e1 : ((n : Int) - 1 + 3) / 4 = c := by omega
 have e2 : (4 : Int) * c - (n - 1) = m := by omega
 have hnb : 1 ≤ (n : Int) ∧ (n : Int) ≤ 241 := by omega
 have hcb : (c : Int) ≤ 60 := by omega
 have hsm := cell_set_map
 clear hS hSS hR hc hn hcn hm hk0 hA
 go_enter Tryz.func56, Tryz.ntmps56
 go_wp2_with (first
  | (go_at_call 55; refine (c55 _).mono ?_; rintro r w1 ⟨rfl, hb1⟩; obtain ⟨hc1, hf1, hz1_0, hl1_0, hA1, hs1⟩ := wz w hb1 w.heap.size; clear hb1)
  | (go_at_call 113; refine (c113 _).mono ?_; rintro r w2 ⟨rfl, hb2⟩; obtain ⟨hc2, hf2, hz2_0, hl2_0, hA2, hs2⟩ := wz w hb2 w.heap.size; clear hb2))
 have K : ∀ q, q < 4 → ((((w2.setCell ⟨w.heap.size, 0, none⟩ (.int .u64 (W4 S 0))).setCell ⟨w.heap.size, 1, none⟩ (.int .u64 (W4 S 1))).setCell ⟨w.heap.size, 2, none⟩ (.int .u64 (W4 S 2))).setCell ⟨w.heap.size, 3, none⟩ (.int .u64 (W4 S 3))).cell? ⟨w.heap.size, q, none⟩ = some (.int .u64 (W4 S q)) := by
  intro q hq
  have hor : q = 0 ∨ q = 1 ∨ q = 2 ∨ q = 3 := by omega
  rcases hor with rfl | rfl | rfl | rfl <;> go_simp
 have HB3 : Below w.heap.size w ((((w2.setCell ⟨w.heap.size, 0, none⟩ (.int .u64 (W4 S 0))).setCell ⟨w.heap.size, 1, none⟩ (.int .u64 (W4 S 1))).setCell ⟨w.heap.size, 2, none⟩ (.int .u64 (W4 S 2))).setCell ⟨w.heap.size, 3, none⟩ (.int .u64 (W4 S 3))) := bgo
 have hz3 : w.heap.size + 1 ≤ ((((w2.setCell ⟨w.heap.size, 0, none⟩ (.int .u64 (W4 S 0))).setCell ⟨w.heap.size, 1, none⟩ (.int .u64 (W4 S 1))).setCell ⟨w.heap.size, 2, none⟩ (.int .u64 (W4 S 2))).setCell ⟨w.heap.size, 3, none⟩ (.int .u64 (W4 S 3))).heap.size := by simp; omega
 generalize ((((w2.setCell ⟨w.heap.size, 0, none⟩ (.int .u64 (W4 S 0))).setCell ⟨w.heap.size, 1, none⟩ (.int .u64 (W4 S 1))).setCell ⟨w.heap.size, 2, none⟩ (.int .u64 (W4 S 2))).setCell ⟨w.heap.size, 3, none⟩ (.int .u64 (W4 S 3))) = w3 at *
 clear hc1 hf1 hc2 hf2 hsm c55 c113
 have HW : Hid (∀ q r, r < 16 → bits BinOp.and IntKind.u64 (W4 S q / 2 ^ (4 * r)) 15 = ((S / 16 ^ (16 * q + r) % 16 : Nat) : Int)) := fun q r hr => nib_w S q r hr
 have HX : Hid (∀ j, j < c → (hxL R c).take (j + 1) = (hxL R c).take j ++ [hxd (S / 16 ^ (c - 1 - j) % 16)]) := fun j hj => by
  rw [hxL_next hj, HN.out (c - 1 - j) (by omega)]
 have HL : Hid (∀ j, j ≤ c → ((hxL R c).take j).length = j) := fun j hj => by rw [List.length_take, hxL_len]; omega
 have HE : Hid ((hxL R c).take c = hxL R c) := by show _ = _; rw [List.take_of_length_le (by rw [hxL_len]; omega)]
 go_loopw [5, 6] (fun t5 t6 wr => ∃ j : Nat, j ≤ c ∧ t6 = .int .i64 ((c : Int) - 1 - j) ∧ wr.ownsRow (w.heap.size + 1) 5 1 t5 ((hxL R c).take j).length (Lib.byteCells ((hxL R c).take j)) ∧ (j = 0 → t5 = .slice none 0 0) ∧ (∀ q, q < 4 → wr.cell? ⟨w.heap.size, q, none⟩ = some (.int .u64 (W4 S q))) ∧ Below w.heap.size w wr ∧ w.heap.size + 1 ≤ wr.heap.size) (fun _ t6 _ => (intOf t6 + 1).toNat)
 case atStart => exact ⟨0, Nat.zero_le _, by go_num, World.ownsRow_nil _ _ _ _, fun _ => rfl, K, HB3, hz3⟩
 case round =>
  obtain ⟨j, hj, ht6, hown, hnil, hcell, hB, hsz⟩ := hrel
  by_cases hlt : j < c
  ·obtain ⟨i, hi⟩ : ∃ i, c - 1 - j = i := ⟨_, rfl⟩
   rw [show (c : Int) - 1 - j = i by omega] at ht6
   subst ht6
   have hXj := HX.out j hlt
   rw [hi] at hXj
   obtain ⟨q, hq⟩ : ∃ q, i / 16 = q := ⟨_, rfl⟩
   obtain ⟨r, hr⟩ : ∃ r, i % 16 = r := ⟨_, rfl⟩
   have hqi : (i : Int) / 16 = q := by omega
   have hri : (i : Int) % 16 = r := by omega
   have hr16 : (r : Int) < 16 := by omega
   have hq4 : (q : Int) < 4 := by omega
   have hi60 : (i : Int) < 60 := by omega
   have hcq := hcell q (by omega)
   have hnib := HW.out q r (by omega)
   rw [show 16 * q + r = i by omega] at hnib
   obtain ⟨x, hx⟩ : ∃ x, S / 16 ^ i % 16 = x := ⟨_, rfl⟩
   rw [hx] at hnib hXj
   have hx16 : x < 16 := by rw [← hx]; exact Nat.mod_lt _ (by decide)
   have e4 : ((r : Int) * 4).toNat = 4 * r := by omega
   have hwq := W4_words S q
   generalize W4 S q = y at hnib hcq hwq
   have au := auint_v (w.heap.size + 1) u5 ((hxL R c).take j) x hx16 wr (hT.next hB) hown hsz (by rw [HL.out j hj]; omega)
   have HJ : Hid ((c : Int) - 1 - j = i) := by show _ = _; omega
   have HR : Hid ((hxL R c).take (j + 1) = (hxL R c).take j ++ [hxd x]) := hXj
   have HC : Hid (∀ q, q < 4 → wr.cell? ⟨w.heap.size, q, none⟩ = some (.int .u64 (W4 S q))) := hcell
   have HB : Hid (Below w.heap.size w wr) := hB
   clear hcell hB hXj hx hq hr hi hown hnil K HB3 hz3
   go_wp2_with (go_at_call 120; refine au.mono ?_; rintro e w4 ⟨v4, rfl, ho4, hb4⟩)
   go_roundw
   case rel =>
    refine ⟨j + 1, hlt, ?_, ?_, fun e => absurd e (by omega), fun q hq => ?_, HB.out.trans (hb4.mono (by omega)), Nat.le_trans hsz hb4.size⟩
    ·have := HJ.out
     go_num
    ·rw [HR.out]
     exact ho4
    ·exact (hb4.cell (p := ⟨w.heap.size, q, none⟩) (by show w.heap.size < _; omega)).trans (HC.out q hq)
   case measure => first | (simp [intOf]; done) | (simp [intOf]; omega)
  ·obtain rfl : j = c := by omega
   rw [show (j : Int) - 1 - j = -1 by omega] at ht6
   subst ht6
   rw [HE.out] at hown
   have ctr : ∀ (l : List UInt8) (W : World), l.length ≤ 1000 → Calls Tryz.prog 121 #[.string (B l), .string ⟨#[48]⟩] W fun e w' => e = .returned (.string (B (hxS l))) ∧ w' = W := fun l W hl => Tryz.strings_TrimRight_one (B l) 48 (by decide) W (by rw [B_size]; omega)
   have hlen : (hxL R j).length = j := hxL_len R j
   have HB : Hid (Below w.heap.size w wr) := hB
   by_cases h0 : j = 0
   ·have ht5 := hnil h0
    subst ht5
    subst h0
    have ct := ctr (hxL R 0) wr (by omega)
    have hz : B (hxL R 0) = ⟨#[]⟩ := rfl
    have hcv : (convert 81 9 (.slice none 0 0)).run Tryz.prog wr = .ok (.string ⟨#[]⟩) wr := by
     rw [run_convert_bytes_string wr 81 9 5 none 0 0 Tryz.underlying81 Tryz.underlying5 Tryz.underlying9]
     rfl
    rw [hz] at ct
    clear hown hnil hcell hB K HB3 hz3 HW HX HL HE HN e1 e2
    go_wp2_with (go_at_call 121; refine ct.mono ?_; rintro e w5 ⟨rfl, rfl⟩)
    go_ret
    exact ⟨by rw [HD.out]; rfl, HB.out⟩
   ·have hst := own_str (v := u5) hown (by omega)
    have ct := ctr (hxL R j) wr (by omega)
    generalize B (hxL R j) = bs at *
    clear hown hnil hcell hB K HB3 hz3 HW HX HL HE HN e1 e2
    go_wp2_with (go_at_call 121; refine ct.mono ?_; rintro e w5 ⟨rfl, rfl⟩)
    go_ret
    exact ⟨by rw [HD.out]; rfl, HB.out⟩
end
section
attribute [local irreducible] W4 Nz Nt NT
section
variable (x p : Int) (A B C D : Nat) (w : World) (hx : -100000 ≤ x ∧ x ≤ 100000) (hp : -100000 ≤ p ∧ p ≤ 100000)
include hx hp
end
section
variable (n : Int) (c : Int) (s g : Bool) (x : Int) (k : Nat) (nm : ByteArray) (wd : Int) (f e : Nat) (l m : Int) (w : World) (hT : Tab w) (hk : k < 2 ^ 256) (hf : f ≤ 300)
 (c73 : ∀ W, Tab W → Calls Tryz.prog 32 #[.int .i64 n] W fun r w' => r = .returned (.tuple #[DI n nm wd f e l m, .int .i64 0]) ∧ Below W.heap.size W w')
 (c113 : ∀ W, Calls Tryz.prog 147 #[.int .i64 2, .int .i64 (f : Int)] W fun r w' => ∃ v, r = .returned (.tuple #[v, .int .i64 0]) ∧ Nt 2001 (2 ^ f) v w' ∧ Below W.heap.size W w')
include hT hk hf c73 c113
end
def nbB (n x : Int) (k : Nat) : Bool := decide (leastN n < x) && decide (k = 2 ^ fN n)
end
section
def isSl (v : Value) : Prop := ∃ a k c, v = .slice a k c
structure Rch (g : Nat) (vn vb va vw : Value) (c : Bool) (w : World) : Prop where
 blk : w.heap[g]? = some (.cells #[vn, vb, va, vw, .bool c] 212)
 s0 : isSl vn
 s1 : isSl vb
 s2 : isSl va
 s3 : isSl vw
structure Mut (g : Nat) (w w' : World) : Prop where
 os : w'.os = w.os
 tape : w'.tape = w.tape
 output : w'.output = w.output
 size : w.heap.size ≤ w'.heap.size
 block : ∀ k, k < w.heap.size → k ≠ g → w'.heap[k]? = w.heap[k]?
theorem Mut.refl (g : Nat) (w : World) : Mut g w w := ⟨rfl, rfl, rfl, Nat.le_refl _, fun _ _ _ => rfl⟩
theorem Mut.trans {g : Nat} {a b c : World} (h : Mut g a b) (k : Mut g b c) : Mut g a c :=
 ⟨k.os.trans h.os, k.tape.trans h.tape, k.output.trans h.output, Nat.le_trans h.size k.size, fun i hi hg => (k.block i (Nat.lt_of_lt_of_le hi h.size) hg).trans (h.block i hi hg)⟩
theorem Mut.below {g : Nat} {a b : World} (h : Below a.heap.size a b) : Mut g a b := ⟨h.os, h.tape, h.output, h.size, fun k hk _ => h.block k hk⟩
theorem Mut.set {g : Nat} {a b : World} (h : Mut g a b) (i : Nat) (v : Value) : Mut g a (b.setCell ⟨g, i, none⟩ v) :=
 h.trans ⟨rfl, rfl, rfl, by simp [World.setCell], fun k _ hk => Below.heap_setCell _ _ _ _ hk⟩
theorem Mut.out {g B : Nat} {w0 w w' : World} (h : Mut g w w') (h0 : Below B w0 w) (hB : B ≤ g) (hs : B ≤ w0.heap.size) : Below B w0 w' :=
 h0.trans ⟨h.os, h.tape, h.output, h.size, fun k hk => h.block k (by have := h0.size; omega) (by omega)⟩
theorem Rch.lt {g : Nat} {vn vb va vw : Value} {c : Bool} {w : World} (h : Rch g vn vb va vw c w) : g < w.heap.size := by
 rcases Nat.lt_or_ge g w.heap.size with h' | h'
 ·exact h'
 ·have := h.blk; rw [Array.getElem?_eq_none h'] at this; cases this
theorem Rch.next {g : Nat} {vn vb va vw : Value} {c : Bool} {w w' : World} (h : Rch g vn vb va vw c w) (hb : Below w.heap.size w w') : Rch g vn vb va vw c w' :=
 ⟨(hb.block g h.lt).trans h.blk, h.s0, h.s1, h.s2, h.s3⟩
theorem Rch.cell {g : Nat} {vn vb va vw : Value} {c : Bool} {w : World} (h : Rch g vn vb va vw c w) (i : Nat) : w.cell? ⟨g, i, none⟩ = (#[vn, vb, va, vw, .bool c] : Array Value)[i]? := by
 unfold World.cell?
 simp [h.blk]
theorem Rch.cells {g : Nat} {vn vb va vw : Value} {c : Bool} {w : World} (h : Rch g vn vb va vw c w) :
  w.cell? ⟨g, 0, none⟩ = some vn ∧ w.cell? ⟨g, 1, none⟩ = some vb ∧ w.cell? ⟨g, 2, none⟩ = some va ∧ w.cell? ⟨g, 3, none⟩ = some vw ∧ w.cell? ⟨g, 4, none⟩ = some (.bool c) :=
 ⟨h.cell 0, h.cell 1, h.cell 2, h.cell 3, h.cell 4⟩
theorem Rch.set {g : Nat} {vn vb va vw : Value} {c : Bool} {w : World} (h : Rch g vn vb va vw c w) (v : Value) (hv : isSl v) :
  Rch g v vb va vw c (w.setCell ⟨g, 0, none⟩ v) ∧ Rch g vn v va vw c (w.setCell ⟨g, 1, none⟩ v) ∧ Rch g vn vb v vw c (w.setCell ⟨g, 2, none⟩ v) ∧ Rch g vn vb va v c (w.setCell ⟨g, 3, none⟩ v) := by
 have hb := h.blk
 refine ⟨⟨?_, hv, h.s1, h.s2, h.s3⟩, ⟨?_, h.s0, hv, h.s2, h.s3⟩, ⟨?_, h.s0, h.s1, hv, h.s3⟩, ⟨?_, h.s0, h.s1, h.s2, hv⟩⟩ <;>
  simp [World.setCell, Array.getElem?_modify, hb]
attribute [local irreducible] W4 Nz Nt NT
section
variable (g : Nat) (vn vb va vw : Value) (c : Bool) (w : World) (hR : Rch g vn vb va vw c w)
include hR
end
end
section
theorem tn_ex {k : Nat} {x : Int} : ∀ (d : Nat) (g0 : Int), tnP k x g0 → ¬ tnP k x (g0 + d) → ∃ E, g0 ≤ E ∧ E < g0 + d ∧ tnP k x E ∧ ¬ tnP k x (E + 1)
 | 0, g0, h0, h1 => absurd h0 (by simpa using h1)
 | d + 1, g0, h0, h1 => by
  by_cases h : tnP k x (g0 + 1)
  ·obtain ⟨E, e1, e2, e3, e4⟩ := tn_ex d (g0 + 1) h (by rw [show g0 + 1 + (d : Int) = g0 + ((d + 1 : Nat) : Int) by omega]; exact h1)
   exact ⟨E, by omega, by omega, e3, e4⟩
  ·exact ⟨g0, Int.le_refl _, by omega, h0, h⟩
theorem tn_top {k : Nat} {x : Int} (hk : k < 2 ^ 256) (hx : x ≤ 17000) : ¬ tnP k x 6000 := by
 unfold tnP zE oE
 rw [show ((-6000 : Int)).toNat = 0 by decide, Nat.pow_zero, Nat.mul_one, show ((6000 : Int)).toNat = 6000 by decide]
 have h1 : (2 : Nat) ^ 18000 ≤ 10 ^ 6000 := by decide +kernel
 obtain ⟨m', hm'⟩ : ∃ m' : Nat, m' = 18000 := ⟨_, rfl⟩
 rw [← hm'] at h1
 generalize (10 : Nat) ^ 6000 = T at *
 obtain ⟨m, hm⟩ : ∃ m : Nat, m = 17000 := ⟨_, rfl⟩
 have h2 : k * 2 ^ x.toNat < 2 ^ 256 * 2 ^ m := by
  have a1 : k * 2 ^ x.toNat < 2 ^ 256 * 2 ^ x.toNat := Nat.mul_lt_mul_of_pos_right hk (Nat.two_pow_pos _)
  have a2 : 2 ^ 256 * 2 ^ x.toNat ≤ 2 ^ 256 * 2 ^ m := Nat.mul_le_mul_left _ (Nat.pow_le_pow_right (by decide) (by omega))
  exact Nat.lt_of_lt_of_le a1 a2
 rw [← Nat.pow_add] at h2
 have h3 : (2 : Nat) ^ (256 + m) ≤ 2 ^ m' := Nat.pow_le_pow_right (by decide) (by omega)
 have h4 : 1 * T ≤ 2 ^ (-x).toNat * T := Nat.mul_le_mul_right _ (Nat.two_pow_pos _)
 generalize (2 : Nat) ^ (256 + m) = Y at *
 generalize (2 : Nat) ^ m' = Y' at *
 rw [Nat.mul_assoc 4, Nat.mul_assoc 4]
 generalize 2 ^ (-x).toNat * T = Z1 at *
 generalize k * 2 ^ x.toNat = Z2 at *
 omega
attribute [local irreducible] W4 Nz Nt NT
end
section
theorem Rch.grown {g : Nat} {vn vb va vw tv : Value} {c : Bool} {w w' : World} (hr : Rch g vn vb va vw c w) (hg : w.grownBy w' tv.ownBlock) (hf : some g ≠ tv.ownBlock) : Rch g vn vb va vw c w' :=
 ⟨(hg.block g hr.lt hf).trans hr.blk, hr.s0, hr.s1, hr.s2, hr.s3⟩
theorem NT.grown {K V Bs : Nat} {v tv : Value} {l : List UInt8} {w w' : World} (h : NT K V v w) (ho : w.ownsRow Bs 5 1 tv l.length (Lib.byteCells l)) (hl : tv = .slice none 0 0 ∨ 0 < l.length) (hg : w.grownBy w' tv.ownBlock) : NT K V v w' := by
 obtain ⟨b, k, cap, z, h1, h2, ⟨n1, n2, n3, n4, n5⟩, h4, h5⟩ := h
 refine ⟨b, k, cap, z, h1, h2, ⟨n1, n2, n3, n4, ?_⟩, h4, h5⟩
 rcases n5 with n5 | ⟨b', off, e, hb, hc⟩
 ·exact Or.inl n5
 ·cases e
  refine Or.inr ⟨b, 0, rfl, Nat.lt_of_lt_of_le hb hg.size, fun i hi => ?_⟩
  have hne : some b ≠ tv.ownBlock := by
   rcases hl with rfl | hl
   ·intro h; cases h
   ·obtain ⟨g', cap', rfl, _, _⟩ := ho.form hl
    intro h
    have : b = g' := Option.some.inj h
    subst this
    have h6 := hc 0 (by omega)
    rw [Nat.add_zero, ho.cellAt 0 (by omega)] at h6
    simp [Lib.byteCells, hl] at h6
  exact (World.cell?_of_block (w := w) (a := ⟨b, 0 + i, none⟩) (hg.block b hb hne)).trans (hc i hi)
attribute [local irreducible] W4 Nz Nt NT
end
def lwN (n x : Int) (k : Nat) : Nat := if nbB n x k then 1 else 2
def evK (k : Nat) : Bool := decide (k % 2 = 0)
structure Shd (n x : Int) (k : Nat) (E : Int) (K : Nat) : Prop where
 t0 : tnP k x E
 t1 : ¬ tnP k x (E + 1)
 st : stK (evK k) (4 * k * oE x E) (lwN n x k * oE x E) (2 * oE x E) (zE x E) K = true
 mn : ∀ j, j < K → stK (evK k) (4 * k * oE x E) (lwN n x k * oE x E) (2 * oE x E) (zE x E) j = false
theorem bin_x {n x : Int} (hb : binN n) (h1 : leastN n ≤ x) (h2 : x ≤ mostN n) : -16990 ≤ x ∧ x ≤ 16990 := by
 have h3 : -16990 ≤ leastN n ∧ mostN n ≤ 16990 := by
  rcases bin_cases hb with rfl | rfl | rfl | rfl | rfl | rfl <;> decide
 omega
theorem gs_in {k : Nat} {x : Int} (hk : k < 2 ^ 256) (hk0 : k ≠ 0) (hx : -16990 ≤ x ∧ x ≤ 16990) : tnP k x (gsP k x) ∧ -6000 ≤ gsP k x ∧ gsP k x < 6000 := by
 have hb : bl k ≤ 256 := bl_le.2 hk
 obtain ⟨b1, b2, b3⟩ := bl_bd hk0
 have e : ((bl k - 1 : Nat) : Int) = (bl k : Int) - 1 := by omega
 have := guess_ok (c := k) (L := bl k - 1) (x := x) b1 (by omega)
 rw [e] at this
 refine ⟨this, ?_⟩
 unfold gsP
 by_cases h0 : 0 ≤ (bl k : Int) - 1 + x
 ·rw [Int.tdiv_eq_ediv_of_nonneg (by omega)]; omega
 ·rw [show ((bl k : Int) - 1 + x) * 30103 = -(-((bl k : Int) - 1 + x) * 30103) by omega, Int.neg_tdiv, Int.tdiv_eq_ediv_of_nonneg (by omega)]; omega
theorem Shd.ex {n x : Int} {k : Nat} (hk : k < 2 ^ 256) (hk0 : k ≠ 0) (hx : -16990 ≤ x ∧ x ≤ 16990) : ∃ E K, Shd n x k E K := by
 obtain ⟨g1, g2, g3⟩ := gs_in hk hk0 hx
 obtain ⟨E, e1, e2, e3, e4⟩ := tn_ex (6000 - gsP k x).toNat (gsP k x) g1 (by rw [show gsP k x + ((6000 - gsP k x).toNat : Int) = 6000 by omega]; exact tn_top hk (by omega))
 have hl : 0 < lwN n x k * oE x E := Nat.mul_pos (by unfold lwN; split <;> decide) (oE_pos _ _)
 obtain ⟨K, h1, h2⟩ := st_ex (c := evK k) (R := 4 * k * oE x E) (u := 2 * oE x E) (zE_pos x E) hl
 exact ⟨E, K, e3, e4, h1, h2⟩
section
theorem itoa_short {e : Int} (he : -100000 ≤ e ∧ e ≤ 100000) : (Lib.itoa e).length ≤ 100 := by
 have := Lib.itoa_length_le e (by omega) (by omega)
 omega
attribute [local irreducible] W4
section
variable (n : Int) (Bp : Nat) (c : Int) (s g : Bool) (x : Int) (k : Nat) (w : World) (hT : Tab w) (hT10 : Tb10 w)
include hT
include hT10
end
end
section
def sgE (e : Int) : List UInt8 := (if 0 ≤ e then [43] else []) ++ Lib.itoa e
theorem signed_v (e : Int) (w : World) (hT10 : Tb10 w) (he : -100000 ≤ e ∧ e ≤ 100000) : Calls Tryz.prog 57 #[.int .i64 e] w fun r w' => r = .returned (.string (B (sgE e))) ∧ Below w.heap.size w w' := by
 have hi := itoa_short he
 have c53 := fun W (h : Tb10 W) => itoa_any e W (by omega) h
 have htl := B_toList
 unfold sgE
 have p0 : (⟨#[43]⟩ : ByteArray) ++ B (Lib.itoa e) = B ([43] ++ Lib.itoa e) := B_app [43] _
 obtain ⟨il, hil⟩ : ∃ il, (Lib.itoa e).length = il := ⟨_, rfl⟩
 have z2 : (B (Lib.itoa e)).size = il := by rw [B_size]; exact hil
 have hil2 : il ≤ 100 := by omega
 clear hi hil
 generalize Lib.itoa e = I at *
 by_cases h : 0 ≤ e
 ·rw [if_pos h]
  generalize hL1 : [43] ++ I = L1 at *
  clear hL1
  go_enter Tryz.func57, Tryz.ntmps57
  go_wp2_with (go_at_call 31; refine (c53 _ hT10).mono ?_; rintro r w3 ⟨rfl, hb3⟩)
  go_ret
  exact ⟨rfl, hb3⟩
 ·rw [if_neg h, List.nil_append]
  have h' : e < 0 := by omega
  go_enter Tryz.func57, Tryz.ntmps57
  go_wp2_with (go_at_call 31; refine (c53 _ hT10).mono ?_; rintro r w3 ⟨rfl, hb3⟩)
  go_ret
  exact ⟨rfl, hb3⟩
attribute [local irreducible] W4
theorem hun_z (x : Int) (w : World) : Calls Tryz.prog 23 #[A4 0, .int .i64 x] w fun r w' => r = .returned (.string (B hbZ)) ∧ Below w.heap.size w w' := by
 have c55 := fun W => len4' 0 W
 rw [lenL_bl (A := 0) (by decide), show bl 0 = 0 from bl_zero.2 rfl] at c55
 have hz : B hbZ = ⟨#[48, 120, 48, 112, 43, 48]⟩ := rfl
 rw [hz]
 go_enter Tryz.func23, Tryz.ntmps23
 go_wp2_with (go_at_call 55; refine (c55 _).mono ?_; rintro r w1 ⟨rfl, hb1⟩; obtain ⟨hc1, hf1, hz1_0, hl1_0, hA1, hs1⟩ := wz w hb1 w.heap.size; clear hb1)
 go_ret
 exact ⟨rfl, bgo⟩
section
variable {k : Nat} (x : Int) (w : World) (hT : TbZ w) (hT10 : Tb10 w) (hk0 : k ≠ 0) (hk : bl k ≤ 241) (hx : -40000 ≤ x ∧ x ≤ 40000)
include hT hT10 hk0 hk hx
theorem hun_n (hD : hbD k = []) : Calls Tryz.prog 23 #[A4 k, .int .i64 x] w fun r w' => r = .returned (.string (B (hbT k x))) ∧ Below w.heap.size w w' := by
 have hA : k < 2 ^ 256 := bl_le.1 (by omega)
 have hn1 : bl k ≠ 0 := fun e => hk0 (bl_zero.1 e)
 have c55 := fun W => len4' k W
 rw [lenL_bl hA] at c55
 have c56 := fun W h => bh_v hk0 hk W h
 rw [hD, B_nil] at c56
 have HT : Hid (hbT k x = ([48, 120, 49] ++ [112]) ++ sgE (bl k - 1 + x)) := by
  show _ = _
  unfold hbT sgE
  rw [if_pos hD, show x + bl k - 1 = (bl k : Int) - 1 + x by omega]
  simp
 obtain ⟨n, hn⟩ : ∃ n, bl k = n := ⟨_, rfl⟩
 rw [hn] at hk hn1 c55 HT
 have hnb : 1 ≤ (n : Int) ∧ (n : Int) ≤ 241 := by omega
 have hne : ((n : Int) == 0) = false := by rw [beq_eq_false_iff_ne]; omega
 have c57 := fun W h => signed_v ((n : Int) - 1 + x) W h (by omega)
 have zs : (B (sgE ((n : Int) - 1 + x))).size ≤ 200 := by
  rw [B_size]
  unfold sgE
  have hi := itoa_short (e := (n : Int) - 1 + x) (by omega)
  rw [List.length_append]
  split <;> simp <;> omega
 generalize hs : sgE ((n : Int) - 1 + x) = sg at *
 have p0 : (⟨#[48, 120, 49]⟩ : ByteArray) ++ (⟨#[112]⟩ : ByteArray) = B ([48, 120, 49] ++ [112]) := B_app [48, 120, 49] [112]
 have z0 : (B ([48, 120, 49] ++ [112])).size = 4 := rfl
 have p1 : B ([48, 120, 49] ++ [112]) ++ B sg = B (([48, 120, 49] ++ [112]) ++ sg) := B_app _ _
 generalize hL : ([48, 120, 49] ++ [112]) ++ sg = L at *
 generalize hL0 : ([48, 120, 49] ++ [112] : List UInt8) = L0 at *
 obtain ⟨zn, hzn⟩ : ∃ zn, (B sg).size = zn := ⟨_, rfl⟩
 rw [hzn] at zs
 clear hL hL0 hs hD hn hk0 hk hA
 go_enter Tryz.func23, Tryz.ntmps23
 go_wp2_with (first
  | (have hh := hA2; go_at_call 55; refine (c55 _).mono ?_; rintro r w3 ⟨rfl, hb3⟩; obtain ⟨hc3, hf3, hz3_0, hl3_0, hA3, hs3⟩ := wz w hb3 w.heap.size; clear hb3)
  | (go_at_call 55; refine (c55 _).mono ?_; rintro r w1 ⟨rfl, hb1⟩; obtain ⟨hc1, hf1, hz1_0, hl1_0, hA1, hs1⟩ := wz w hb1 w.heap.size; clear hb1)
  | (go_at_call 56; refine (c56 _ (hT.next hA1)).mono ?_; rintro r w2 ⟨rfl, hb2⟩; obtain ⟨hc2, hf2, hz2_0, hl2_0, hA2, hs2⟩ := wz w hb2 w.heap.size; clear hb2)
  | (go_at_call 57; refine (c57 _ (hT10.next hA3)).mono ?_; rintro r w4 ⟨rfl, hb4⟩; obtain ⟨hc4, hf4, hz4_0, hl4_0, hA4, hs4⟩ := wz w hb4 w.heap.size; clear hb4))
 go_ret
 exact ⟨by rw [HT.out]; rfl, bgo⟩
theorem hun_d (hD : hbD k ≠ []) : Calls Tryz.prog 23 #[A4 k, .int .i64 x] w fun r w' => r = .returned (.string (B (hbT k x))) ∧ Below w.heap.size w w' := by
 have hA : k < 2 ^ 256 := bl_le.1 (by omega)
 have hn1 : bl k ≠ 0 := fun e => hk0 (bl_zero.1 e)
 have c55 := fun W => len4' k W
 rw [lenL_bl hA] at c55
 have c56 := fun W h => bh_v hk0 hk W h
 have hdl : (hbD k).length ≤ 60 := by
  have := (hbD_facts k).2.1
  unfold hbC at this
  omega
 have HT : Hid (hbT k x = (([48, 120, 49] ++ ([46] ++ hbD k)) ++ [112]) ++ sgE (bl k - 1 + x)) := by
  show _ = _
  unfold hbT sgE
  rw [if_neg hD, show x + bl k - 1 = (bl k : Int) - 1 + x by omega]
  simp
 obtain ⟨n, hn⟩ : ∃ n, bl k = n := ⟨_, rfl⟩
 rw [hn] at hk hn1 c55 HT
 have hnb : 1 ≤ (n : Int) ∧ (n : Int) ≤ 241 := by omega
 have hne : ((n : Int) == 0) = false := by rw [beq_eq_false_iff_ne]; omega
 have c57 := fun W h => signed_v ((n : Int) - 1 + x) W h (by omega)
 have zs : (B (sgE ((n : Int) - 1 + x))).size ≤ 200 := by
  rw [B_size]
  unfold sgE
  have hi := itoa_short (e := (n : Int) - 1 + x) (by omega)
  rw [List.length_append]
  split <;> simp <;> omega
 generalize hs : sgE ((n : Int) - 1 + x) = sg at *
 have htl := B_toList
 generalize hDD : hbD k = D at *
 have hemp : D.isEmpty = false := by cases D with | nil => exact absurd rfl hD | cons y ys => rfl
 have hzd : (B D).size = D.length := B_size D
 have p0 : (⟨#[46]⟩ : ByteArray) ++ B D = B ([46] ++ D) := B_app [46] _
 have z0 : (B ([46] ++ D)).size = D.length + 1 := by rw [B_size, List.length_append]; simp; omega
 have p1 : (⟨#[48, 120, 49]⟩ : ByteArray) ++ B ([46] ++ D) = B ([48, 120, 49] ++ ([46] ++ D)) := B_app [48, 120, 49] _
 have z1 : (B ([48, 120, 49] ++ ([46] ++ D))).size = D.length + 4 := by rw [B_size, List.length_append, List.length_append]; simp; omega
 have p2 : B ([48, 120, 49] ++ ([46] ++ D)) ++ (⟨#[112]⟩ : ByteArray) = B (([48, 120, 49] ++ ([46] ++ D)) ++ [112]) := B_app _ [112]
 have z2 : (B (([48, 120, 49] ++ ([46] ++ D)) ++ [112])).size = D.length + 5 := by rw [B_size, List.length_append, List.length_append, List.length_append]; simp; omega
 have p3 : B (([48, 120, 49] ++ ([46] ++ D)) ++ [112]) ++ B sg = B ((([48, 120, 49] ++ ([46] ++ D)) ++ [112]) ++ sg) := B_app _ _
 obtain ⟨zn, hzn⟩ : ∃ zn, (B sg).size = zn := ⟨_, rfl⟩
 rw [hzn] at zs
 obtain ⟨dl, hdn⟩ : ∃ dl, D.length = dl := ⟨_, rfl⟩
 rw [hdn] at hdl hzd z0 z1 z2
 generalize hL3 : (([48, 120, 49] ++ ([46] ++ D)) ++ [112]) ++ sg = L3 at *
 generalize hL2 : ([48, 120, 49] ++ ([46] ++ D)) ++ [112] = L2 at *
 generalize hL1 : [48, 120, 49] ++ ([46] ++ D) = L1 at *
 generalize hL0 : [46] ++ D = L0 at *
 clear hL0 hL1 hL2 hL3 hs hD hn hk0 hk hA hDD hdn
 go_enter Tryz.func23, Tryz.ntmps23
 go_wp2_with (first
  | (have hh := hA2; go_at_call 55; refine (c55 _).mono ?_; rintro r w3 ⟨rfl, hb3⟩; obtain ⟨hc3, hf3, hz3_0, hl3_0, hA3, hs3⟩ := wz w hb3 w.heap.size; clear hb3)
  | (go_at_call 55; refine (c55 _).mono ?_; rintro r w1 ⟨rfl, hb1⟩; obtain ⟨hc1, hf1, hz1_0, hl1_0, hA1, hs1⟩ := wz w hb1 w.heap.size; clear hb1)
  | (go_at_call 56; refine (c56 _ (hT.next hA1)).mono ?_; rintro r w2 ⟨rfl, hb2⟩; obtain ⟨hc2, hf2, hz2_0, hl2_0, hA2, hs2⟩ := wz w hb2 w.heap.size; clear hb2)
  | (go_at_call 57; refine (c57 _ (hT10.next hA3)).mono ?_; rintro r w4 ⟨rfl, hb4⟩; obtain ⟨hc4, hf4, hz4_0, hl4_0, hA4, hs4⟩ := wz w hb4 w.heap.size; clear hb4))
 go_ret
 exact ⟨by rw [HT.out]; rfl, bgo⟩
end
def hwT (k : Nat) (x : Int) : List UInt8 := if k = 0 then hbZ else hbT k x
theorem hun_v {k : Nat} (x : Int) (w : World) (hT : TbZ w) (hT10 : Tb10 w) (hk : bl k ≤ 241) (hx : -40000 ≤ x ∧ x ≤ 40000) : Calls Tryz.prog 23 #[A4 k, .int .i64 x] w fun r w' => r = .returned (.string (B (hwT k x))) ∧ Below w.heap.size w w' := by
 unfold hwT
 by_cases h0 : k = 0
 ·subst h0
  rw [if_pos rfl]
  exact hun_z x w
 ·rw [if_neg h0]
  by_cases hD : hbD k = []
  ·exact hun_n x w hT hT10 h0 hk hx hD
  ·exact hun_d x w hT hT10 h0 hk hx hD
end
end Go.Proofs.YtplocajjfoiklaaGreatDoor
