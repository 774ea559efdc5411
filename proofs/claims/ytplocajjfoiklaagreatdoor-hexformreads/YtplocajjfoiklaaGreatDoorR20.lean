/-
  Texts that the proof leans on, joined: Gu, Ma, Ix, Lv4.
-/
import Derived.Test.YtplocajjfoiklaaGreatDoorR19
import Derived.Test.YtplocajjfoiklaaGreatDoorR14
import Derived.Test.YtplocajjfoiklaaGreatDoorR1
import Derived.Shelf.Strings.SlTrimAscii
import Derived.Lib.AtoiAllMem
import Derived.Lib.ConvBytes
import Derived.Lib.UnsafeStr
import Derived.Laws.Strings3
import Derived.Laws.Closers25
import Derived.Laws.Closers25b
import Derived.Test.YtplocajjfoiklaaGreatDoorR12
import Derived.Test.YtplocajjfoiklaaGreatDoorR11
set_option maxHeartbeats 8000000
set_option linter.unusedVariables false
set_option linter.unusedSimpArgs false
set_option linter.unusedSectionVars false
set_option maxRecDepth 100000
namespace Go.Proofs.YtplocajjfoiklaaGreatDoor
open Go.RowKit
def nanT (g : Bool) (d : List UInt8) : List UInt8 := (if g then [115] else []) ++ ([110, 97, 110] ++ (if d = [] then [] else 40 :: (d ++ [41])))
def finT (d : List UInt8) (e : Int) : List UInt8 := dgT d ++ exT e
def bodT (c : Int) (g : Bool) (d : List UInt8) (e : Int) : List UInt8 := if c = 2 then [105, 110, 102] else if c = 3 then nanT g d else finT d e
def texT (c : Int) (s g : Bool) (d : List UInt8) (e : Int) : List UInt8 := (if s then [45] else []) ++ bodT c g d e
theorem nanT_pos (g : Bool) (d : List UInt8) : 0 < (nanT g d).length := by unfold nanT; simp only [List.length_append, List.length_cons]; omega
theorem appNaN_any (Bs : Nat) (c : Int) (s g : Bool) (d : List UInt8) (e : Int) (v : Value) (l : List UInt8) (w : World) (hl : l.length < 100000) (hd : d.length < 100000) (hown : w.ownsRow Bs 5 1 v l.length (Lib.byteCells l)) (hb : Bs ≤ w.heap.size) :
  Calls Tryz.prog 189 #[v, PV c s g d e] w fun x w' => ∃ v', x = .returned v' ∧ w'.ownsRow Bs 5 1 v' (l ++ nanT g d).length (Lib.byteCells (l ++ nanT g d)) ∧ Below Bs w w' := by
 cases g
 ·cases d with
  | nil => exact appNaN_fn Bs c s e v l w hl hown hb
  | cons x xs => exact appNaN_fc Bs c s x xs e v l w hl hown hb hd
 ·cases d with
  | nil => exact appNaN_tn Bs c s e v l w hl hown hb
  | cons x xs => exact appNaN_tc Bs c s x xs e v l w hl hown hb hd
theorem own_str {Bs : Nat} {v : Value} {l : List UInt8} {W : World} (h : W.ownsRow Bs 5 1 v l.length (Lib.byteCells l)) (hp : 0 < l.length) : (convert 81 9 v).run Tryz.prog W = .ok (.string (B l)) W := by
 obtain ⟨g, cap, rfl, _, _⟩ := h.form hp
 refine run_convert_bytes_back W 81 9 5 ⟨g, 0, none⟩ cap l Tryz.underlying81 Tryz.underlying5 Tryz.underlying9 fun j hj => ?_
 rw [show (⟨g, 0, none⟩ : Addr).add j = ⟨g, j, none⟩ by unfold Addr.add; split <;> simp_all]
 rw [h.cellAt j (by omega)]
 simp [Lib.byteCells, hj]
theorem text_t2 (g : Bool) (d : List UInt8) (e : Int) (w : World) (hd : d.length < 100000) :
  Calls Tryz.prog 144 #[PV 2 true g d e] w fun x w' => x = .returned (.string (B ([45] ++ [105, 110, 102]))) ∧ Below w.heap.size w w' := by
 have htl := B_toList
 obtain ⟨i0, hi, hz0, hz1, hz2⟩ := info_parts Tryz.info5
 have A0 : Ap w.heap.size w.heap.size (PC 2 true g d e) (.slice none 0 0) [] w (w.alloc (.cells (PC 2 true g d e) 64)) := Ap.start (World.ownsRow_nil _ _ _ _) (Nat.le_refl _)
 unfold PV
 go_enter Tryz.func144, Tryz.ntmps144
 go_wp2_with (first | (at_builtin; refine wpList_append_lies _ rfl (.tmp 6) (.tmp 7) 81 rfl w.heap.size 5 i0 (.int .u8 0) 1 1 Tryz.underlying81 hi hz0 hz1 hz2 rfl (by decide) (.slice none 0 0) (([] : List UInt8)).length (Lib.byteCells (([] : List UInt8))) rfl (A0.alloc (.cells #[.int .u8 45] 5)).own ⟨w.heap.size + 1, 0, none⟩ 1 1 [.int .u8 45] rfl rfl (news1 _ _ _ (by simp)) (one1 _) (by decide) (by unfold maxLen; decide) (by decide) (A0.alloc (.cells #[.int .u8 45] 5)).bs _ rfl ?_; intro g1 cap1 w1 hown hgrow hat hlt; have A1 := (A0.alloc (.cells #[.int .u8 45] 5)).app (m := [45]) hgrow hown (by simp only [List.length_append, List.length_cons, List.length_nil]; try omega) (bc_one _ 45); clear hown hgrow hat hlt; generalize (Value.slice (some ⟨g1, 0, none⟩) ((([] : List UInt8)).length + 1) cap1) = v1 at *; have k1_0 : w1.cell? ⟨w.heap.size, 0, none⟩ = some (.int .i64 2) := A1.cell 0; have k1_1 : w1.cell? ⟨w.heap.size, 1, none⟩ = some (.bool true) := A1.cell 1; have k1_2 : w1.cell? ⟨w.heap.size, 2, none⟩ = some (.bool g) := A1.cell 2; have k1_3 : w1.cell? ⟨w.heap.size, 3, none⟩ = some (.string (B d)) := A1.cell 3; have k1_4 : w1.cell? ⟨w.heap.size, 4, none⟩ = some (.int .i64 e) := A1.cell 4) | (at_builtin; refine Lib.wpList_append_own_string _ rfl (.tmp 16) (.const (.string ⟨#[105, 110, 102]⟩)) 81 9 rfl w.heap.size 5 i0 Tryz.underlying81 Tryz.underlying9 hi hz0 hz1 hz2 v1 (([] ++ [45])).length (Lib.byteCells (([] ++ [45]))) rfl A1.own (B [105, 110, 102]) rfl (by rw [B_size]; unfold maxLen; simp only [List.length_append, List.length_cons, List.length_nil]; omega) (by rw [B_size]; simp only [List.length_append, List.length_cons, List.length_nil]; omega) A1.bs ?_; intro v2 w2 hown hgrow hq; have A2 := A1.app (m := [105, 110, 102]) hgrow hown (by simp only [B_size, List.length_append, List.length_cons, List.length_nil]; try omega) (bc_str _ _); clear hown hgrow hq; have hcv := own_str A2.own (by simp)))
 go_ret
 exact ⟨rfl, A2.bel⟩
theorem text_t3 (g : Bool) (d : List UInt8) (e : Int) (w : World) (hd : d.length < 100000) :
  Calls Tryz.prog 144 #[PV 3 true g d e] w fun x w' => x = .returned (.string (B ([45] ++ nanT g d))) ∧ Below w.heap.size w w' := by
 have htl := B_toList
 obtain ⟨i0, hi, hz0, hz1, hz2⟩ := info_parts Tryz.info5
 have A0 : Ap w.heap.size w.heap.size (PC 3 true g d e) (.slice none 0 0) [] w (w.alloc (.cells (PC 3 true g d e) 64)) := Ap.start (World.ownsRow_nil _ _ _ _) (Nat.le_refl _)
 unfold PV
 go_enter Tryz.func144, Tryz.ntmps144
 go_wp2_with (first | (at_builtin; refine wpList_append_lies _ rfl (.tmp 6) (.tmp 7) 81 rfl w.heap.size 5 i0 (.int .u8 0) 1 1 Tryz.underlying81 hi hz0 hz1 hz2 rfl (by decide) (.slice none 0 0) (([] : List UInt8)).length (Lib.byteCells (([] : List UInt8))) rfl (A0.alloc (.cells #[.int .u8 45] 5)).own ⟨w.heap.size + 1, 0, none⟩ 1 1 [.int .u8 45] rfl rfl (news1 _ _ _ (by simp)) (one1 _) (by decide) (by unfold maxLen; decide) (by decide) (A0.alloc (.cells #[.int .u8 45] 5)).bs _ rfl ?_; intro g1 cap1 w1 hown hgrow hat hlt; have A1 := (A0.alloc (.cells #[.int .u8 45] 5)).app (m := [45]) hgrow hown (by simp only [List.length_append, List.length_cons, List.length_nil]; try omega) (bc_one _ 45); clear hown hgrow hat hlt; generalize (Value.slice (some ⟨g1, 0, none⟩) ((([] : List UInt8)).length + 1) cap1) = v1 at *; have k1_0 : w1.cell? ⟨w.heap.size, 0, none⟩ = some (.int .i64 3) := A1.cell 0; have k1_1 : w1.cell? ⟨w.heap.size, 1, none⟩ = some (.bool true) := A1.cell 1; have k1_2 : w1.cell? ⟨w.heap.size, 2, none⟩ = some (.bool g) := A1.cell 2; have k1_3 : w1.cell? ⟨w.heap.size, 3, none⟩ = some (.string (B d)) := A1.cell 3; have k1_4 : w1.cell? ⟨w.heap.size, 4, none⟩ = some (.int .i64 e) := A1.cell 4) | (go_at_call 189; refine (appNaN_any w.heap.size 3 true g d e v1 ([] ++ [45]) _ (by simp) hd A1.own A1.bs).mono ?_; rintro x w8 ⟨v8, rfl, hown8, hb8⟩; have hcv := own_str hown8 (by rw [List.length_append]; have := nanT_pos g d; omega)))
 go_ret
 exact ⟨rfl, A1.bel.trans hb8⟩
theorem text_f2 (g : Bool) (d : List UInt8) (e : Int) (w : World) (hd : d.length < 100000) :
  Calls Tryz.prog 144 #[PV 2 false g d e] w fun x w' => x = .returned (.string (B ([105, 110, 102]))) ∧ Below w.heap.size w w' := by
 have htl := B_toList
 obtain ⟨i0, hi, hz0, hz1, hz2⟩ := info_parts Tryz.info5
 have A0 : Ap w.heap.size w.heap.size (PC 2 false g d e) (.slice none 0 0) [] w (w.alloc (.cells (PC 2 false g d e) 64)) := Ap.start (World.ownsRow_nil _ _ _ _) (Nat.le_refl _)
 unfold PV
 go_enter Tryz.func144, Tryz.ntmps144
 go_wp2_with (first | (at_builtin; refine Lib.wpList_append_own_string _ rfl (.tmp 16) (.const (.string ⟨#[105, 110, 102]⟩)) 81 9 rfl w.heap.size 5 i0 Tryz.underlying81 Tryz.underlying9 hi hz0 hz1 hz2 (.slice none 0 0) (([] : List UInt8)).length (Lib.byteCells (([] : List UInt8))) rfl A0.own (B [105, 110, 102]) rfl (by rw [B_size]; unfold maxLen; simp only [List.length_append, List.length_cons, List.length_nil]; omega) (by rw [B_size]; simp only [List.length_append, List.length_cons, List.length_nil]; omega) A0.bs ?_; intro v2 w2 hown hgrow hq; have A2 := A0.app (m := [105, 110, 102]) hgrow hown (by simp only [B_size, List.length_append, List.length_cons, List.length_nil]; try omega) (bc_str _ _); clear hown hgrow hq; have hcv := own_str A2.own (by simp)))
 go_ret
 exact ⟨rfl, A2.bel⟩
theorem text_f3 (g : Bool) (d : List UInt8) (e : Int) (w : World) (hd : d.length < 100000) :
  Calls Tryz.prog 144 #[PV 3 false g d e] w fun x w' => x = .returned (.string (B (nanT g d))) ∧ Below w.heap.size w w' := by
 have htl := B_toList
 obtain ⟨i0, hi, hz0, hz1, hz2⟩ := info_parts Tryz.info5
 have A0 : Ap w.heap.size w.heap.size (PC 3 false g d e) (.slice none 0 0) [] w (w.alloc (.cells (PC 3 false g d e) 64)) := Ap.start (World.ownsRow_nil _ _ _ _) (Nat.le_refl _)
 unfold PV
 go_enter Tryz.func144, Tryz.ntmps144
 go_wp2_with (first | (go_at_call 189; refine (appNaN_any w.heap.size 3 false g d e (.slice none 0 0) [] _ (by simp) hd A0.own A0.bs).mono ?_; rintro x w8 ⟨v8, rfl, hown8, hb8⟩; have hcv := own_str hown8 (by rw [List.length_append]; have := nanT_pos g d; omega)))
 go_ret
 exact ⟨rfl, A0.bel.trans hb8⟩
theorem trimx_any (l : List UInt8) (w : World) : Calls Tryz.prog 126 #[.string (B l), .string ⟨#[48, 49, 50, 51, 52, 53, 54, 55, 56, 57, 97, 98, 99, 100, 101, 102, 65, 66, 67, 68, 69, 70]⟩] w fun e w' => e = .returned (.string (B (l.dropWhile hxc))) ∧ Below w.heap.size w w' := by
 refine (Any.strings_TrimLeft_laid Tryz.lays161 (by kernel_rfl) (B l) (B hxAll) w (by decide) (ascii_of_all (by decide))).mono fun e w' ⟨h1, h2⟩ => ⟨?_, h2⟩
 rw [h1]
 show Ending.returned (Value.string (B (l.dropWhile fun y => hxAll.contains y))) = _
 have : (fun y => hxAll.contains y) = hxc := funext hxc_mem
 rw [this]
theorem lower_fact (y : UInt8) (h : hxc y = true) (hd : dg y = false) : bits BinOp.or IntKind.u8 ((y.toNat : Nat) : Int) 32 = ((hxw (sm y) + 87 : Nat) : Int) := by
 have := u8_all (p := fun y => !hxc y || (dg y || decide (bits BinOp.or IntKind.u8 ((y.toNat : Nat) : Int) 32 = ((hxw (sm y) + 87 : Nat) : Int)))) (by decide +kernel) y
 simpa [h, hd] using this
theorem letter_bd (y : UInt8) (h : hxc y = true) (hd : dg y = false) : 10 ≤ hxw (sm y) ∧ hxw (sm y) ≤ 15 ∧ (¬ y.toNat ≤ 57 ∨ y.toNat < 48) ∧ y.toNat ≠ 95 := by
 have := u8_all (p := fun y => !hxc y || (dg y || decide (10 ≤ hxw (sm y) ∧ hxw (sm y) ≤ 15 ∧ (¬ y.toNat ≤ 57 ∨ y.toNat < 48) ∧ y.toNat ≠ 95))) (by decide +kernel) y
 simpa [h, hd] using this
theorem letter_gt (y : UInt8) (h : hxc y = true) (hd : dg y = false) : 58 ≤ y.toNat := by
 have := u8_all (p := fun y => !hxc y || (dg y || decide (58 ≤ y.toNat))) (by decide +kernel) y
 simpa [h, hd] using this
theorem digit_fact (y : UInt8) (hd : dg y = true) : hxw (sm y) = y.toNat - 48 ∧ 48 ≤ y.toNat ∧ y.toNat ≤ 57 := by
 have := u8_all (p := fun y => !dg y || decide (hxw (sm y) = y.toNat - 48 ∧ 48 ≤ y.toNat ∧ y.toNat ≤ 57)) (by decide +kernel) y
 simpa [hd] using this
theorem hxc_all_sml {D : List UInt8} (h : D.all hxc = true) : (sml D).all hxB = true := by
 unfold sml
 rw [List.all_map]
 exact h
theorem lower_v (y : UInt8) (h : hxc y = true) (hd : dg y = false) (w : World) : Calls Tryz.prog 210 #[.int .u8 ((y.toNat : Nat) : Int)] w fun e w' => e = .returned (.int .u8 ((hxw (sm y) + 87 : Nat) : Int)) ∧ w = w' := by
 have hf := lower_fact y h hd
 go_enter Tryz.func210, Tryz.ntmps210
 go_wp2
 go_ret
 exact ⟨rfl, rfl⟩
theorem px_get {D : List UInt8} {k : Nat} (h : k < D.length) : ∃ y, D[k]? = some y ∧ D.getD k 0 = y ∧ D.take (k + 1) = D.take k ++ [y] := by
 refine ⟨D[k]'h, List.getElem?_eq_getElem h, by simp [List.getD, List.getElem?_eq_getElem h], by rw [List.take_succ_eq_append_getElem h]⟩
theorem puint_in (D : List UInt8) (hD : D.all hxc = true) (h0 : D ≠ []) (h16 : D.length ≤ 16) (w : World) :
  Calls Tryz.prog 177 #[.string (B D), .int .i64 16, .int .i64 64] w fun e w' => e = .returned (.tuple #[.int .u64 (hxV (sml D) : Int), .nilIface]) ∧ Below w.heap.size w w' := by
 have hemp : (B D).toList.isEmpty = false := by
  rw [B_toList]
  cases D with
  | nil => exact absurd rfl h0
  | cons _ _ => rfl
 have hcv := Lib.run_convert_string_bytes (P := Tryz.prog) w 9 81 5 (B D) (u := .string) Tryz.underlying9 Tryz.underlying81 Tryz.underlying5
 have hB0 : ∀ j, j < (B D).size → (Lib.bytesWorld w 5 (B D)).cell? ⟨w.heap.size, j, none⟩ = some (.int .u8 ((B D).data.toList.getD j 0).toNat) := fun j hj => Lib.bytesWorld_cell w 5 (B D) j hj
 have HBW : Hid (Below w.heap.size w (Lib.bytesWorld w 5 (B D))) := Lib.below_freeze ((Below.drew (Below.refl _ w)).alloc (Nat.le_refl _) _) (p := ⟨w.heap.size, _, none⟩) (Nat.le_refl _) 1
 obtain ⟨W1, hW1⟩ : ∃ W1, W1 = Lib.bytesWorld w 5 (B D) := ⟨_, rfl⟩
 rw [← hW1] at hcv hB0 HBW
 clear hW1
 have hsz : (B D).size = D.length := B_size D
 have hB : ∀ j, j < D.length → W1.cell? ⟨w.heap.size, j, none⟩ = some (.int .u8 (D.getD j 0).toNat) := fun j hj => hB0 j (by omega)
 clear hB0
 obtain ⟨n, hn⟩ : ∃ n, D.length = n := ⟨_, rfl⟩
 rw [hn] at hsz hB h16
 have hn16 : (n : Int) ≤ 16 := by omega
 have HG : Hid (∀ k, k < n → ∃ y, hxc y = true ∧ D.getD k 0 = y ∧ hxV (sml (D.take (k + 1))) = hxV (sml (D.take k)) * 16 + hxw (sm y)) := fun k hk => by
  obtain ⟨y, e1, e2, e3⟩ := px_get (D := D) (k := k) (by omega)
  refine ⟨y, List.all_eq_true.1 hD y (List.mem_of_getElem? e1), e2, ?_⟩
  rw [e3, sml_app, show sml [y] = [sm y] from rfl, hxV_snoc]
 have HL : Hid (∀ k, k ≤ n → hxV (sml (D.take k)) < 16 ^ k) := fun k hk => by
  have h1 : (sml (D.take k)).all hxB = true := hxc_all_sml (List.all_eq_true.2 fun y hy => List.all_eq_true.1 hD y (List.mem_of_mem_take hy))
  have h2 := hxV_lt h1
  rwa [sml_len, List.length_take, hn, Nat.min_eq_left hk] at h2
 have HT : Hid (hxV (sml (D.take n)) = hxV (sml D)) := by show _ = _; rw [← hn, List.take_length]
 have HZ : Hid (hxV (sml (D.take 0)) = 0) := rfl
 have hmv : IntKind.u64.wrap (IntKind.u64.wrap 18446744073709551616 - 1) = 18446744073709551615 := by
  rw [IntKind.wrap_u64, IntKind.wrap_u64]
  decide
 clear hD h0 hn
 generalize hq : B D = BD at *
 generalize hV : hxV (sml D) = VD at *
 clear hq hV
 obtain ⟨f, hf⟩ : ∃ f : Nat → Nat, ∀ k, f k = hxV (sml (D.take k)) := ⟨fun k => hxV (sml (D.take k)), fun _ => rfl⟩
 simp only [← hf] at HG HL HT HZ
 clear hf
 go_enter Tryz.func177, Tryz.ntmps177
 go_wp2
 go_loop [12, 13, 101] (fun vu vn vi => ∃ (k : Nat) (a : Int), vu = .bool false ∧ vn = .int .u64 a ∧ vi = .int .i64 k ∧ k ≤ n ∧ Hid (a = (f k : Int)))
  (fun _ _ vi => n - (intOf vi).toNat)
 case atStart => exact ⟨0, 0, rfl, rfl, rfl, by omega, by show _ = _; rw [HZ.out]; rfl⟩
 case round =>
  obtain ⟨k, a, rfl, rfl, rfl, hk, hh⟩ := hrel
  have a0 : 0 ≤ a := by have := hh.out; omega
  by_cases hkn : k < n
  ·have hc := hB k hkn
   obtain ⟨y, y1, y2, y3⟩ := HG.out k hkn
   rw [y2] at hc
   have a1 : a < 1152921504606846976 := by
    have h1 := HL.out k hk
    have h2 : 16 ^ k ≤ 16 ^ 15 := Nat.pow_le_pow_right (by decide) (by omega)
    have := hh.out
    have h3 : (16 : Nat) ^ 15 = 1152921504606846976 := by decide
    omega
   have HN : Hid (a * 16 + (hxw (sm y) : Int) = (f (k + 1) : Int)) := by
    show _ = _
    rw [y3, hh.out]
    omega
   have hki : (k : Int) < n := by omega
   have hc256 : y.toNat < 256 := y.toNat_lt
   clear hB hh y3 y2
   by_cases hd : dg y = true
   ·obtain ⟨d1, d2, d3⟩ := digit_fact y hd
    have hd0 : 48 ≤ ((y.toNat : Nat) : Int) := by omega
    have hd1 : ((y.toNat : Nat) : Int) ≤ 57 := by omega
    rw [d1, show ((y.toNat - 48 : Nat) : Int) = ((y.toNat : Nat) : Int) - 48 by omega] at HN
    clear d1 d2 d3 hd y1
    go_wp2
    refine ⟨⟨k + 1, a * 16 + (((y.toNat : Nat) : Int) - 48), rfl, (by first | rfl | (congr 1; omega)), (by first | rfl | (congr 1; omega)), by omega, HN⟩, by simp [intOf]; omega⟩
   ·have hd' : dg y = false := by simpa using hd
    have hlo := fun W => lower_v y y1 hd' W
    have hgt := letter_gt y y1 hd'
    obtain ⟨b1, b2, _, b4⟩ := letter_bd y y1 hd'
    have hgi : 58 ≤ ((y.toNat : Nat) : Int) := by omega
    have hne : (((y.toNat : Nat) : Int) == 95) = false := by rw [beq_eq_false_iff_ne]; omega
    obtain ⟨E, hE⟩ : ∃ E : Int, ((hxw (sm y) + 87 : Nat) : Int) = E := ⟨_, rfl⟩
    rw [hE] at hlo
    have hE1 : 97 ≤ E := by omega
    have hE2 : E ≤ 102 := by omega
    rw [show (hxw (sm y) : Int) = E - 97 + 10 by omega] at HN
    clear hE b1 b2 b4 hd hd' y1 hgt
    go_wp2_with (go_at_call 210; refine (hlo _).mono ?_; rintro e w' ⟨rfl, rfl⟩)
    refine ⟨⟨k + 1, a * 16 + (E - 97 + 10), rfl, (by first | rfl | (congr 1; omega)), (by first | rfl | (congr 1; omega)), by omega, HN⟩, by simp [intOf]; omega⟩
  ·have hkk : k = n := by omega
   subst hkk
   have hfin : a = (VD : Int) := by rw [hh.out, HT.out]
   subst hfin
   clear hh hB
   go_wp2
   go_ret2
   exact ⟨rfl, HBW.out⟩
theorem puint_v (D : List UInt8) (hD : D.all hxc = true) (h0 : D ≠ []) (h16 : D.length ≤ 16) (w : World) :
  Calls Tryz.prog 128 #[.string (B D), .int .i64 16, .int .i64 64] w fun e w' => e = .returned (.tuple #[.int .u64 (hxV (sml D) : Int), .nilIface]) ∧ Below w.heap.size w w' := by
 have c := fun W => puint_in D hD h0 h16 W
 generalize B D = BD at *
 generalize ((hxV (sml D) : Nat) : Int) = V at *
 go_enter Tryz.func128, Tryz.ntmps128
 go_wp2_with (go_at_call 177; refine (c _).mono ?_; rintro e w' ⟨rfl, hb⟩)
 go_ret2
 exact ⟨rfl, hb⟩
def IDX (b : ByteArray) (i : Nat) (c : Int) : Prop := ∀ h : i < b.size, ((b[i]'h).toNat : Int) = c
theorem IDX_of {l : List UInt8} {i : Nat} (h : i < l.length) : IDX (B l) i (((l[i]'h).toNat : Nat) : Int) := by
 intro h'
 rw [by_lt h']
 unfold by_
 rw [dif_pos h]
theorem IDX_get {l : List UInt8} {i : Nat} {y : UInt8} (h : l[i]? = some y) : IDX (B l) i ((y.toNat : Nat) : Int) := by
 obtain ⟨hi, e⟩ := List.getElem?_eq_some_iff.1 h
 have := IDX_of hi
 rw [e] at this
 exact this
def W4 (A : Nat) (i : Nat) : Int := ((A / 2 ^ (64 * i) % 18446744073709551616 : Nat) : Int)
abbrev A4 (A : Nat) : Value := .agg #[.int .u64 (W4 A 0), .int .u64 (W4 A 1), .int .u64 (W4 A 2), .int .u64 (W4 A 3)]
theorem W4_words (A : Nat) : Words (W4 A) := fun i => by
 unfold W4
 have := Nat.mod_lt (A / 2 ^ (64 * i)) (show 0 < 18446744073709551616 by decide)
 omega
theorem p64n (n : Nat) : (18446744073709551616 : Int) ^ n = ((2 ^ (64 * n) : Nat) : Int) := by
 rw [Nat.pow_mul]
 simp
theorem W4_val (A : Nat) : ∀ n, val (W4 A) n = ((A % 2 ^ (64 * n) : Nat) : Int)
 | 0 => by simp [val, Nat.mod_one]
 | n + 1 => by
  show val (W4 A) n + W4 A n * 18446744073709551616 ^ n = _
  have e : A % 2 ^ (64 * (n + 1)) = A % 2 ^ (64 * n) + 2 ^ (64 * n) * (A / 2 ^ (64 * n) % 18446744073709551616) := by
   rw [show 64 * (n + 1) = 64 * n + 64 by omega, Nat.pow_add]
   exact Nat.mod_mul
  rw [W4_val A n, p64n, e]
  unfold W4
  rw [Int.natCast_add, Int.natCast_mul, Int.mul_comm]
theorem W4_val4 {A : Nat} (h : A < 2 ^ 256) : val (W4 A) 4 = A := by
 rw [W4_val, Nat.mod_eq_of_lt h]
theorem arr_eq {x y : Nat → Int} (hx : Words x) (hy : Words y) (h : val x 4 = val y 4) : arrOf x 4 = arrOf y 4 :=
 arrOf_congr (val_inj hx hy 4 h)
theorem arr_A4 {x : Nat → Int} (hx : Words x) {A : Nat} (h : val x 4 = ((A % 2 ^ 256 : Nat) : Int)) : Value.agg (arrOf x 4) = A4 A := by
 have e : arrOf x 4 = arrOf (W4 A) 4 := arr_eq hx (W4_words A) (by rw [h, W4_val])
 rw [e]; rfl
theorem A4_mod (A : Nat) : A4 (A % 2 ^ 256) = A4 A := by
 have := arr_A4 (W4_words (A % 2 ^ 256)) (A := A) (by rw [W4_val, Nat.mod_mod])
 exact this
theorem A4_inj {A B : Nat} (hA : A < 2 ^ 256) (hB : B < 2 ^ 256) (h : ∀ i, i < 4 → W4 A i = W4 B i) : A = B := by
 have := val_congr (x := W4 A) (y := W4 B) 4 h
 rw [W4_val4 hA, W4_val4 hB] at this
 omega
theorem add4 (A B : Nat) (w : World) (hA : A < 2 ^ 256) (hB : B < 2 ^ 256) :
  Calls Tryz.prog 52 #[A4 A, A4 B] w fun e w' => e = .returned (.tuple #[A4 (A + B), .int .u64 (((A + B) / 2 ^ 256 : Nat) : Int)]) ∧ Below w.heap.size w w' := by
 refine (limAdd4 (W4 A) (W4 B) w (W4_words A) (W4_words B)).mono ?_
 rintro e w' ⟨rfl, hb⟩
 refine ⟨?_, hb⟩
 have hs := sum_val (x := W4 A) (y := W4 B) 4
 have hc := carryW_01 (W4_words A) (W4_words B) 4
 have hv := val_bd (sumW_words (W4 A) (W4 B)) 4
 rw [W4_val4 hA, W4_val4 hB] at hs
 have e4 : (18446744073709551616 : Int) ^ 4 = 115792089237316195423570985008687907853269984665640564039457584007913129639936 := by decide
 have e4n : (2 : Nat) ^ 256 = 115792089237316195423570985008687907853269984665640564039457584007913129639936 := by decide
 rw [e4] at hs hv
 rw [e4n] at hA hB ⊢
 rw [arr_A4 (sumW_words _ _) (A := A + B) (by rw [e4n]; omega)]
 have : carryW (W4 A) (W4 B) 4 = (((A + B) / 115792089237316195423570985008687907853269984665640564039457584007913129639936 : Nat) : Int) := by omega
 rw [this]
theorem sub4 (A B : Nat) (w : World) (hA : A < 2 ^ 256) (hB : B < 2 ^ 256) :
  Calls Tryz.prog 112 #[A4 A, A4 B] w fun e w' => e = .returned (.tuple #[A4 (A + 2 ^ 256 - B), .int .u64 (if A < B then 1 else 0)]) ∧ Below w.heap.size w w' := by
 refine (limSub4 (W4 A) (W4 B) w (W4_words A) (W4_words B)).mono ?_
 rintro e w' ⟨rfl, hb⟩
 refine ⟨?_, hb⟩
 have hs := dif_val (x := W4 A) (y := W4 B) (W4_words A) (W4_words B) 4
 have hc := borW_01 (W4 A) (W4 B) 4
 have hv := val_bd (difW_words (W4 A) (W4 B)) 4
 rw [W4_val4 hA, W4_val4 hB] at hs
 have e4 : (18446744073709551616 : Int) ^ 4 = 115792089237316195423570985008687907853269984665640564039457584007913129639936 := by decide
 have e4n : (2 : Nat) ^ 256 = 115792089237316195423570985008687907853269984665640564039457584007913129639936 := by decide
 rw [e4] at hs hv
 rw [e4n] at hA hB ⊢
 rw [arr_A4 (difW_words _ _) (A := A + 115792089237316195423570985008687907853269984665640564039457584007913129639936 - B) (by rw [e4n]; omega)]
 have : borW (W4 A) (W4 B) 4 = if A < B then 1 else 0 := by split <;> omega
 rw [this]
theorem A4_sub {A B : Nat} (h : B ≤ A) : A4 (A + 2 ^ 256 - B) = A4 (A - B) := by
 rw [← A4_mod (A - B), ← A4_mod (A + 2 ^ 256 - B), show A + 2 ^ 256 - B = A - B + 2 ^ 256 by omega, Nat.add_mod_right]
theorem shl4 (A n : Nat) (w : World) (hA : A < 2 ^ 256) (hn : n ≤ 100000) :
  Calls Tryz.prog 113 #[A4 A, .int .i64 n] w fun e w' => e = .returned (A4 (A * 2 ^ n)) ∧ Below w.heap.size w w' := by
 refine (shlA4 (W4 A) n w (W4_words A) (by omega)).mono ?_
 rintro e w' ⟨rfl, hb⟩
 refine ⟨?_, hb⟩
 congr 1
 by_cases h1 : n = 0
 ·subst h1
  have e : shlA (W4 A) ((0 : Nat) : Int) = W4 A := by funext j; unfold shlA; rw [if_pos (by omega)]
  rw [e, Nat.pow_zero, Nat.mul_one]; rfl
 refine arr_A4 (shlA_words (W4_words A) _) ?_
 have hlow := shlL_fin (W4_words A) (N := 4) (((n : Int) / 64).toNat) (((n : Int) % 64).toNat)
 have es : shlA (W4 A) (n : Int) = shlL (W4 A) ((n : Int) / 64).toNat ((n : Int) % 64).toNat := by funext j; unfold shlA; rw [if_neg (by omega)]
 rw [es]
 obtain ⟨q, hq⟩ : ∃ q : Nat, ((n : Int) / 64).toNat = q := ⟨_, rfl⟩
 obtain ⟨r, hr⟩ : ∃ r : Nat, ((n : Int) % 64).toNat = r := ⟨_, rfl⟩
 rw [hq, hr] at hlow ⊢
 have hn : n = 64 * q + r := by omega
 have hr6 : r < 64 := by omega
 have h4 : val (shlL (W4 A) q r) 4 = val (finL (lowW (W4 A) 4) q r) 4 := by
  refine val_congr 4 fun i hi => ?_
  have := congrFun hlow i
  rw [lowW_lt hi, lowW_lt hi] at this
  exact this
 have hlw : Words (lowW (W4 A) 4) := lowW_words (W4_words A) 4
 have hz : ∀ i, 4 ≤ i → lowW (W4 A) 4 i = 0 := fun i hi => lowW_ge hi
 have hF := finL_val hlw hz q hr6
 have hvl : val (lowW (W4 A) 4) 4 = A := by
  rw [val_congr (x := lowW (W4 A) 4) (y := W4 A) 4 (fun i hi => lowW_lt hi), W4_val4 hA]
 rw [hvl, ← hn] at hF
 have hsp := val_split (finL (lowW (W4 A) 4) q r) 4 (q + 1)
 rw [show 4 + (q + 1) = 4 + q + 1 by omega, hF] at hsp
 have hbd := val_bd (finL_words hlw (q := q) (r := r)) 4
 have e4 : (18446744073709551616 : Int) ^ 4 = ((2 ^ 256 : Nat) : Int) := by decide
 rw [e4] at hbd hsp
 rw [h4]
 have : (A : Int) * 2 ^ n = ((A * 2 ^ n : Nat) : Int) := by simp
 rw [this] at hsp
 have h5 := congrArg (· % ((2 ^ 256 : Nat) : Int)) hsp
 simp only [Int.add_mul_emod_self_right, Int.emod_eq_of_lt hbd.1 hbd.2] at h5
 rw [← h5]
 rfl
theorem shr4 (A n : Nat) (w : World) (hA : A < 2 ^ 256) (hn : n ≤ 100000) :
  Calls Tryz.prog 111 #[A4 A, .int .i64 n] w fun e w' => e = .returned (A4 (A / 2 ^ n)) ∧ Below w.heap.size w w' := by
 refine (shrA4 (W4 A) n w (W4_words A) (by omega)).mono ?_
 rintro e w' ⟨rfl, hb⟩
 refine ⟨?_, hb⟩
 congr 1
 by_cases h1 : n = 0
 ·subst h1
  have e : shrA (W4 A) ((0 : Nat) : Int) 4 = W4 A := by funext j; unfold shrA; rw [if_pos (by omega)]
  rw [e, Nat.pow_zero, Nat.div_one]; rfl
 refine arr_A4 (shrA_words (W4_words A) _ _) ?_
 have hlow := shrL_fin (W4_words A) (N := 4) (((n : Int) / 64).toNat) (((n : Int) % 64).toNat)
 have es : shrA (W4 A) (n : Int) 4 = shrL (W4 A) ((n : Int) / 64).toNat ((n : Int) % 64).toNat 4 := by funext j; unfold shrA; rw [if_neg (by omega)]
 rw [es]
 obtain ⟨q, hq⟩ : ∃ q : Nat, ((n : Int) / 64).toNat = q := ⟨_, rfl⟩
 obtain ⟨r, hr⟩ : ∃ r : Nat, ((n : Int) % 64).toNat = r := ⟨_, rfl⟩
 rw [hq, hr] at hlow ⊢
 have hn : n = 64 * q + r := by omega
 have hr6 : r < 64 := by omega
 have h4 : val (shrL (W4 A) q r 4) 4 = val (shrW (lowW (W4 A) 4) q r) 4 := by
  refine val_congr 4 fun i hi => ?_
  have := congrFun hlow i
  rw [lowW_lt hi] at this
  exact this
 rw [h4]
 exact (shrW_val (lowW_words (W4_words A) 4) (fun i hi => lowW_ge hi) hr6 4 (Nat.le_refl _) (by
  rw [val_congr (x := lowW (W4 A) 4) (y := W4 A) 4 (fun i hi => lowW_lt hi), W4_val4 hA])).trans (by rw [← hn, Nat.mod_eq_of_lt (Nat.lt_of_le_of_lt (Nat.div_le_self _ _) hA)])
theorem len4_le {A k : Nat} (hA : A < 2 ^ 256) : lenL (W4 A) 4 ≤ (k : Int) ↔ A < 2 ^ k := by
  have hv := W4_val4 hA
  by_cases h0 : 0 < sizeL (W4 A) 4
  · obtain ⟨L, h1, h2, h3⟩ := len_bd (W4_words A) h0
    rw [hv] at h2 h3
    rw [h1]
    have h2' : 2 ^ L ≤ A := by have : ((2 ^ L : Nat) : Int) ≤ A := by simpa using h2
                               omega
    have h3' : A < 2 ^ (L + 1) := by have : (A : Int) < ((2 ^ (L + 1) : Nat) : Int) := by simpa using h3
                                     omega
    constructor
    · intro h
      exact Nat.lt_of_lt_of_le h3' (Nat.pow_le_pow_right (by decide) (by omega))
    · intro h
      have : 2 ^ L < 2 ^ k := Nat.lt_of_le_of_lt h2' h
      have := (Nat.pow_lt_pow_iff_right (a := 2) (by decide)).1 this
      omega
  · have hz : sizeL (W4 A) 4 = 0 := by omega
    have hl : lenL (W4 A) 4 = 0 := by unfold lenL; rw [if_pos hz]
    have hA0 : (A : Int) = 0 := by
      rw [← hv, ← val_bare 4, hz]; rfl
    rw [hl]
    have : A = 0 := by omega
    subst this
    exact ⟨fun _ => Nat.two_pow_pos k, fun _ => by omega⟩
theorem len4_zero {A : Nat} (hA : A < 2 ^ 256) : lenL (W4 A) 4 = 0 ↔ A = 0 := by
 have h := len4_le (k := 0) hA
 have h2 : 0 ≤ lenL (W4 A) 4 := by
  by_cases h0 : 0 < sizeL (W4 A) 4
  ·obtain ⟨L, h1, _⟩ := len_bd (W4_words A) h0
   omega
  ·unfold lenL; rw [if_pos (by omega)]; exact Int.le_refl _
 constructor
 ·intro h3; have := h.1 (by omega); omega
 ·intro h3; have := h.2 (by omega); omega
theorem lenL_low (A : Nat) : lenL (lowW (W4 A) 4) 4 = lenL (W4 A) 4 := by
 unfold lenL
 rw [sizeL_congr (x := lowW (W4 A) 4) (y := W4 A) 4 (fun i hi => lowW_lt hi)]
 by_cases h : sizeL (W4 A) 4 = 0
 ·rw [if_pos h, if_pos h]
 ·have := sizeL_le (W4 A) 4
  rw [if_neg h, if_neg h, lowW_lt (by omega)]
theorem len4' (A : Nat) (w : World) : Calls Tryz.prog 55 #[A4 A] w fun e w' => e = .returned (.int .i64 (lenL (W4 A) 4)) ∧ Below w.heap.size w w' := len4 (W4 A) w (W4_words A)
theorem bit4 (A n : Nat) (w : World) (hA : A < 2 ^ 256) (hn : n < 256) :
  Calls Tryz.prog 110 #[A4 A, .int .i64 n] w fun e w' => e = .returned (.int .u64 ((A / 2 ^ n % 2 : Nat) : Int)) ∧ Below w.heap.size w w' := by
 refine (limBit4 (W4 A) n w (W4_words A) (by omega) (by omega)).mono ?_
 rintro e w' ⟨rfl, hb⟩
 refine ⟨?_, hb⟩
 have hb := W4_words A ((n : Int) / 64).toNat
 have h1 : bitV (W4 A ((n : Int) / 64).toNat) n = ((A / 2 ^ n % 2 : Nat) : Int) := by
  unfold bitV
  have h2 := and_mask (y := W4 A ((n : Int) / 64).toNat / 2 ^ ((n : Int) % 64).toNat) (r := 1) (div_word _ _ hb) (by decide)
  rw [show (1 : Int) = 2 ^ 1 - 1 by decide, h2]
  unfold W4
  obtain ⟨q, hq⟩ : ∃ q : Nat, ((n : Int) / 64).toNat = q := ⟨_, rfl⟩
  obtain ⟨r, hr⟩ : ∃ r : Nat, ((n : Int) % 64).toNat = r := ⟨_, rfl⟩
  rw [hq, hr]
  have hn : n = 64 * q + r := by omega
  have hr6 : r < 64 := by omega
  have e1 : ((2 : Int) ^ r) = ((2 ^ r : Nat) : Int) := by simp
  rw [e1, ← Int.natCast_ediv]
  have e2 : A / 2 ^ n = A / 2 ^ (64 * q) / 2 ^ r := by rw [hn, Nat.pow_add, Nat.div_div_eq_div_mul]
  rw [e2]
  generalize A / 2 ^ (64 * q) = B
  have e3 : B % 18446744073709551616 / 2 ^ r % 2 = B / 2 ^ r % 2 := by
   rw [show (18446744073709551616 : Nat) = 2 ^ r * (2 * 2 ^ (63 - r)) by rw [← Nat.pow_succ', ← Nat.pow_add, show r + (63 - r + 1) = 64 by omega]]
   rw [Nat.mod_mul_right_div_self, Nat.mod_mul_right_mod]
  have e4 : ((2 : Int) ^ 1) = ((2 : Nat) : Int) := by decide
  rw [e4, ← Int.natCast_emod, e3]
 rw [h1]
theorem of4 (u : Nat) (w : World) (hu : u < 18446744073709551616) :
  Calls Tryz.prog 115 #[.int .u64 u] w fun e w' => e = .returned (A4 u) ∧ Below w.heap.size w w' := by
 have e0 : W4 u 0 = u := by unfold W4; rw [Nat.mul_zero, Nat.pow_zero, Nat.div_one, Nat.mod_eq_of_lt hu]
 have e1 : ∀ i, 0 < i → W4 u i = 0 := fun i hi => by
  unfold W4
  have : u < 2 ^ (64 * i) := Nat.lt_of_lt_of_le hu (by rw [show (18446744073709551616 : Nat) = 2 ^ 64 by decide]; exact Nat.pow_le_pow_right (by decide) (by omega))
  rw [Nat.div_eq_of_lt this]; rfl
 unfold A4
 rw [e0, e1 1 (by decide), e1 2 (by decide), e1 3 (by decide)]
 go_enter Tryz.func115, Tryz.ntmps115
 go_wp2
 exact bodyPost_ret (v := .agg #[.int .u64 u, .int .u64 0, .int .u64 0, .int .u64 0]) (by simp [results, Tryz.results115, go_sem]) rfl ⟨rfl, ((Below.refl _ _).alloc (Nat.le_refl _) _).alloc (by simp) _⟩
end Go.Proofs.YtplocajjfoiklaaGreatDoor
