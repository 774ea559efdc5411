/-
  Texts that the proof leans on, joined: Lfd, Lfn, Rf, Rg, Rl.
-/
import Derived.Test.YthcndcanahhbcaaDoorJ8
import Derived.Test.YthcndcanahhbcaaDoorJ7
import Derived.Carry
import Derived.Deep.RegionWith
/-
  Patterns and data, opened and shut again.
-/
set_option linter.unusedSectionVars false
set_option linter.unusedVariables false
set_option linter.unusedSimpArgs false
set_option maxRecDepth 100000
namespace Go.Proofs.YthcndcanahhbcaaDoor
open Go.ChangeShapes Go.WideShapes Go.ChangeAt Go.RowKit

theorem Tryd.cells35 : Tryd.prog.cellsOf 35 = 8 := by kernel_rfl
theorem Tryd.cells3 : Tryd.prog.cellsOf 3 = 1 := by kernel_rfl
theorem Tryd.cells4 : Tryd.prog.cellsOf 4 = 1 := by kernel_rfl
theorem Tryd.rec35 : Tryd.prog.readableRec 35 = true := by kernel_rfl
theorem Tryd.row35 : (35 : TypeId) < Tryd.prog.types.size := of_decide_eq_true (by kernel_rfl)
/-- words by their number -/
theorem words_of {x : Nat → Int} (hx : Words x) : ∃ A, A < 2 ^ 256 ∧ ∀ i, i < 4 → x i = W4 A i := by
  obtain ⟨A, hA, _, hv⟩ := words_A4 hx
  exact ⟨A, hA, val_inj hx (W4_words A) 4 (by rw [W4_val4 hA]; exact hv)⟩

section
variable {H : Type} {enc : TypeId × Value → H} {W : World} {r : Reach} {base b : Nat} {sp : Nat → Bool} {held : Bool} {t : TypeId} {n : Nat} {v : Value} {d : DataW H} {p : List MemPlace}
theorem open_bits (hok : Value.okWide Tryd.prog W r base 27 v) (h : DataW.Trod enc Tryd.prog W b sp held 27 v d p) : ∃ A, A < 2 ^ 256 ∧ v = A4 A ∧ p = [] := by
  obtain ⟨x, hx, rfl, hp⟩ := open_words Tryd.underlying27 (by kernel_rfl) hok h
  obtain ⟨A, hA, he, _⟩ := words_A4 hx
  exact ⟨A, hA, he, hp⟩
theorem open_dat (hok : Value.okWide Tryd.prog W r base 35 v) (h : DataW.Trod enc Tryd.prog W b sp held 35 v d p) : ∃ D : Dat, D.k < 2 ^ 256 ∧ v = D.v ∧ p = [] := by
  obtain ⟨cs, rfl, hcs⟩ := okWide_struct Tryd.underlying35 hok
  rw [Tryd.cells35] at hcs
  obtain ⟨fuel, hf⟩ := h
  obtain ⟨xs, n, _, hx, hl, hlen, hfi⟩ := DataW.trod_struct Tryd.underlying35 hf
  have g0 : DataW.trod enc Tryd.prog W b sp held n 3 (((Value.agg cs).cells.toList.drop 0).take (Tryd.prog.cellsOf 3)) = xs[0]? := hfi 0 _ rfl
  have g1 : DataW.trod enc Tryd.prog W b sp held n 4 (((Value.agg cs).cells.toList.drop 1).take (Tryd.prog.cellsOf 4)) = xs[1]? := hfi 1 _ rfl
  have g2 : DataW.trod enc Tryd.prog W b sp held n 4 (((Value.agg cs).cells.toList.drop 2).take (Tryd.prog.cellsOf 4)) = xs[2]? := hfi 2 _ rfl
  have g3 : DataW.trod enc Tryd.prog W b sp held n 3 (((Value.agg cs).cells.toList.drop 3).take (Tryd.prog.cellsOf 3)) = xs[3]? := hfi 3 _ rfl
  have g4 : DataW.trod enc Tryd.prog W b sp held n 27 (((Value.agg cs).cells.toList.drop 4).take (Tryd.prog.cellsOf 27)) = xs[4]? := hfi 4 _ rfl
  match xs, hlen with
  | [y0, y1, y2, y3, y4], _ =>
    obtain ⟨l0, rfl⟩ : ∃ l : List Value, cs = l.toArray := ⟨cs.toList, by simp⟩
    match l0, hcs with
    | [v0, v1, v2, v3, v4, v5, v6, v7], _ =>
      rw [Tryd.cells3] at g0 g3
      rw [Tryd.cells4] at g1 g2
      obtain ⟨z0, e0, q0, _⟩ := DataW.trod_int Tryd.underlying3 g0
      obtain ⟨b1, e1, q1⟩ := DataW.trod_bool Tryd.underlying4 g1
      obtain ⟨b2, e2, q2⟩ := DataW.trod_bool Tryd.underlying4 g2
      obtain ⟨z3, e3, q3, _⟩ := DataW.trod_int Tryd.underlying3 g3
      obtain ⟨us, m, _, hu, _, hul, hui⟩ := DataW.trod_array Tryd.underlying27 g4
      match us, hul with
      | [u0, u1, u2, u3], _ =>
        have k0 := hui 0 (by decide)
        have k1 := hui 1 (by decide)
        have k2 := hui 2 (by decide)
        have k3 := hui 3 (by decide)
        rw [show Tryd.prog.cellsOf 25 = 1 by kernel_rfl] at k0 k1 k2 k3
        rw [show Tryd.prog.cellsOf 27 = 4 by kernel_rfl] at k0 k1 k2 k3
        obtain ⟨a0, f0, r0, w0⟩ := DataW.trod_int Tryd.underlying25 k0
        obtain ⟨a1, f1, r1, w1⟩ := DataW.trod_int Tryd.underlying25 k1
        obtain ⟨a2, f2, r2, w2⟩ := DataW.trod_int Tryd.underlying25 k2
        obtain ⟨a3, f3, r3, w3⟩ := DataW.trod_int Tryd.underlying25 k3
        simp [Value.cells] at e0 e1 e2 e3 f0 f1 f2 f3
        subst e0 e1 e2 e3 f0 f1 f2 f3
        have hw : Words (fun i => match i with | 0 => a0 | 1 => a1 | 2 => a2 | 3 => a3 | _ => 0) := fun i => by
          match i with
          | 0 => exact bounds_u64 w0
          | 1 => exact bounds_u64 w1
          | 2 => exact bounds_u64 w2
          | 3 => exact bounds_u64 w3
          | (j + 4) => exact ⟨Int.le_refl _, (by decide : (0 : Int) ≤ 18446744073709551615)⟩
        obtain ⟨A, hA, hi⟩ := words_of hw
        have i0 : a0 = W4 A 0 := hi 0 (by decide)
        have i1 : a1 = W4 A 1 := hi 1 (by decide)
        have i2 : a2 = W4 A 2 := hi 2 (by decide)
        have i3 : a3 = W4 A 3 := hi 3 (by decide)
        refine ⟨⟨z0, b1, b2, z3, A⟩, hA, ?_, ?_⟩
        · unfold Dat.v DV
          dsimp only
          rw [← i0, ← i1, ← i2, ← i3]
        · have hp := congrArg Prod.snd hx
          simp only [List.flatMap_cons, List.flatMap_nil] at hp
          simp at q0 q1 q2 q3 hu r0 r1 r2 r3
          rw [show p = _ from hp]
          rw [q0, q1, q2, q3, hu, r0, r1, r2, r3]
          rfl
theorem bits_stay {W' : World} {sp' : Nat → Bool} (h : DataW.Trod enc Tryd.prog W 0 (fun _ => true) true 27 v d []) : DataW.Trod enc Tryd.prog W' 0 sp' true 27 v d [] :=
  WideElems.Trod_stays Tryd.laidOut (by kernel_rfl) (of_decide_eq_true (by kernel_rfl)) h (by simp) (by simp)
theorem dat_stay {W' : World} {sp' : Nat → Bool} (h : DataW.Trod enc Tryd.prog W 0 (fun _ => true) true 35 v d []) : DataW.Trod enc Tryd.prog W' 0 sp' true 35 v d [] :=
  WideElems.Trod_stays Tryd.laidOut Tryd.rec35 Tryd.row35 h (by simp) (by simp)
end
end Go.Proofs.YthcndcanahhbcaaDoor

/-
  Lists of words, opened.
-/
set_option linter.unusedVariables false
set_option linter.unusedSectionVars false
set_option maxRecDepth 20000
namespace Go.Proofs.YthcndcanahhbcaaDoor
open Go.ChangeShapes Go.WideShapes Go.ChangeAt Go.RowKit

theorem Tryd.rec22 : Tryd.prog.readableRec 22 = true := by kernel_rfl
theorem Tryd.row22 : (22 : TypeId) < Tryd.prog.types.size := of_decide_eq_true (by kernel_rfl)
section
variable {H : Type} {enc : TypeId × Value → H} {W : World} {r : Reach} {base : Nat} {v : Value} {d : DataW H} {p : List MemPlace}
def lenW (zs : List Int) (len i : Nat) : Int := if i < len then zs.getD i 0 else 0
theorem open_nat (hok : Value.okWide Tryd.prog W r base 22 v) (h : DataW.Trod enc Tryd.prog W 0 (fun _ => true) true 22 v d p) : ∃ a n c x, v = .slice a n c ∧ Num W a n c x := by
  obtain ⟨a0, len0, cap0, rfl⟩ := okWide_slice Tryd.underlying22 hok
  obtain ⟨fuel, hf⟩ := h
  rcases open_ints Tryd.underlying22 Tryd.underlying25 Tryd.cells25 hf with ⟨h1, _⟩ | ⟨a, len, cap, zs, h1, hb, hl, hm, hz, hx, hc, hw⟩
  · cases (List.cons.inj (show [Value.slice a0 len0 cap0] = [.slice none 0 0] from h1)).1
    exact ⟨none, 0, 0, fun _ => 0, rfl, Nat.le_refl _, by unfold maxLen; omega, fun _ => (by decide : (0 : Int) ≤ 0 ∧ (0 : Int) ≤ 18446744073709551615), fun _ _ => rfl, Or.inl ⟨rfl, rfl⟩⟩
  · cases (List.cons.inj (show [Value.slice a0 len0 cap0] = [.slice (some a) len cap] from h1)).1
    simp only [if_true] at hz
    have hh : a.spot = none ∧ a.block < W.heap.size := by
      simp only [Value.okWide, Tryd.underlying22, Cell.okWide, Cell.ok] at hok
      obtain ⟨_, _, hh⟩ := hok
      obtain ⟨_, h2, row, cells, h3, _⟩ := hh
      refine ⟨h2, ?_⟩
      rcases Nat.lt_or_ge a.block W.heap.size with h' | h'
      · exact h'
      · unfold World.shape? at h3; rw [Array.getElem?_eq_none h'] at h3; cases h3
    obtain ⟨b, off, spot⟩ := a
    obtain ⟨h2, h3⟩ := hh
    simp only at h2 h3
    subst h2
    refine ⟨some ⟨b, off, none⟩, len0, cap0, lenW zs len0, rfl, hl, hm, ?_, fun i hi => if_neg (by omega), Or.inr ⟨b, off, rfl, h3, fun i hi => ?_⟩⟩
    · intro i
      unfold lenW
      split
      · have := range_u64 hw i
        simpa [List.getD] using this
      · decide
    · have := hc i (by omega)
      rw [show (⟨b, off, none⟩ : Addr).add i = ⟨b, off + i, none⟩ by simp [Addr.add]] at this
      rw [this]; unfold lenW; rw [if_pos hi]
end
end Go.Proofs.YthcndcanahhbcaaDoor

/-
  What the document's own Right, Left, Less, Add, Bits do, by value.
-/
set_option linter.unusedVariables false
set_option linter.unusedSectionVars false
set_option linter.unusedSimpArgs false
set_option maxRecDepth 20000
namespace Go.Proofs.YthcndcanahhbcaaDoor
open Go.RowKit
theorem rless_tr (a a' : Option Addr) (n c n' c' : Nat) (x y : Nat → Int) (w : World) (hn : n < 4294967290) (hn' : n' < 4294967290) (h : Num w a n c x) (h' : Num w a' n' c' y) :
    Calls Tryd.prog 20 #[.slice a n c, .slice a' n' c'] w fun e w' => ∃ g k cap, e = .returned (.slice (some ⟨g, 0, none⟩) k cap) ∧ k ≤ max n n' ∧ Num w' (some ⟨g, 0, none⟩) k cap (difZ x y (max n n')) ∧ sizeL (difZ x y (max n n')) k = k ∧ Below w.heap.size w w' := by
  have hx := h.2.2.1
  have hy := h'.2.2.1
  have zx := h.2.2.2.1
  have zy := h'.2.2.2.1
  obtain ⟨M, hM⟩ : ∃ M, max n n' = M := ⟨_, rfl⟩
  have hMi : max (n : Int) n' = (M : Int) := by omega
  have hMb : M < 4294967292 := by omega
  have hmk := fun w => make_any (max (n : Int) n') M hMi (by omega) w
  have hfin : ∀ (ss : Array Value), ss.size = M → (∀ j h, ss[j]'h = Value.int .u64 (difW x y j)) → Num (w.alloc (.cells ss 25)) (some ⟨w.heap.size, 0, none⟩) M M (difZ x y (max n n')) := fun ss h1 h2 => num_of_block (by omega) (difZ_words x y _) (fun i hi => by unfold difZ; rw [if_neg (by omega)]) h1 (fun j hj => by rw [h2 j hj]; unfold difZ; rw [if_pos (by omega)])
  have hw1 := fun (i : Nat) (ss : Array Value) => word_any a n c i x (w.alloc (.cells ss 25)) (h.next (below1 w _))
  have hw2 := fun (i : Nat) (ss : Array Value) => word_any a' n' c' i y (w.alloc (.cells ss 25)) (h'.next (below1 w _))
  have HM : Hid (max n n' = M) := hM
  have HZ : Hid ((arrOf (fun _ => 0) M).size = M ∧ ∀ j h, (arrOf (fun _ => 0) M)[j]'h = Value.int .u64 0) := ⟨arrOf_size _ _, fun j h => arrOf_get _ _ _ _⟩
  clear h h' zx zy hM hMi
  generalize arrOf (fun _ => 0) M = zz at *
  go_enter Tryd.func20, Tryd.ntmps20
  go_wp2
  go_loopw [6, 7, 16, 19] (fun c u7 i u20 wr => ∃ (k : Nat) (ss : Array Value), k ≤ M ∧ i = .int .i64 k ∧ c = .int .u64 (borW x y k) ∧ ss.size = M ∧ (∀ j h, ss[j]'h = Value.int .u64 (if j < k then difW x y j else 0)) ∧ wr = w.alloc (.cells ss 25)) (fun _ _ i _ _ => M - (intOf i).toNat)
  case atStart => exact ⟨0, zz, Nat.zero_le _, rfl, rfl, HZ.out.1, fun j h => by rw [HZ.out.2 j h]; simp, rfl⟩
  case round =>
    obtain ⟨k, ss, hk, rfl, rfl, hsz, hss, rfl⟩ := hrel
    have hcar := borW_01 x y k
    by_cases h8 : k < M
    · have h8i : (k : Int) < M := by omega
      have h8s : k < ss.size := by omega
      have bx := hx k
      have b_y := hy k
      have hsk : ss[k]? = some (.int .u64 0) := by rw [Array.getElem?_eq_getElem h8s, hss k h8s, if_neg (by omega)]
      have hadd := fun w => sub64 (x k) (y k) (borW x y k) bx.1 b_y.1 (by omega) hcar.1 hcar.2 w
      have hwa := hw1 k ss
      have hwb := hw2 k ss
      have HR : Hid (∀ (i : Nat) (h : i < (ss.setIfInBounds k (.int .u64 (difW x y k))).size), (ss.setIfInBounds k (.int .u64 (difW x y k)))[i]'h = Value.int .u64 (if i < k + 1 then difW x y i else 0)) := set_next hss
      clear hss hw1 hw2 hfin hmk hx hy
      go_wp2_with (first | (go_at_call_of 45 (Value.slice a n c); refine hwa.mono ?_; rintro e w' ⟨rfl, rfl⟩) | (go_at_call_of 45 (Value.slice a' n' c'); refine hwb.mono ?_; rintro e w' ⟨rfl, rfl⟩))
      go_roundw
      case rel => exact ⟨k + 1, ss.setIfInBounds k (.int .u64 (difW x y k)), by omega, by go_num, rfl, by simp [hsz], HR.out, rfl⟩
      case measure => simp [intOf]; omega
    · obtain rfl : k = M := by omega
      have hss' : ∀ j h, ss[j]'h = Value.int .u64 (difW x y j) := by
        intro j h; rw [hss j h, if_pos (by omega)]
      have hT := trim_any _ _ _ _ _ (by omega) (hfin ss hsz hss')
      have hle := sizeL_le (difZ x y (max n n')) k
      clear hss hss' hw1 hw2 hfin hmk hx hy
      go_wp2_with (go_at_call 35; refine hT.mono ?_; rintro e w1 ⟨g, cap, rfl, hN, hB⟩)
      go_ret
      exact ⟨g, _, cap, rfl, Nat.le_trans hle (Nat.le_of_eq HM.out.symm), hN, sizeL_sizeL _ _, (below1 w _).trans (hB.mono (by simp))⟩

/-- a natural number, of at most K words -/
def NV (K V : Nat) (v : Value) (w : World) : Prop := ∃ g k cap z, v = .slice (some ⟨g, 0, none⟩) k cap ∧ k ≤ K ∧ Num w (some ⟨g, 0, none⟩) k cap z ∧ val z k = (V : Int)
theorem NV.next {K V : Nat} {v : Value} {w w' : World} (h : NV K V v w) (hb : Below w.heap.size w w') : NV K V v w' := by
  obtain ⟨g, k, cap, z, h1, h2, h3, h4⟩ := h
  exact ⟨g, k, cap, z, h1, h2, h3.next hb, h4⟩
theorem NV.more {K K' V : Nat} {v : Value} {w : World} (h : NV K V v w) (hk : K ≤ K') : NV K' V v w := by
  obtain ⟨g, k, cap, z, h1, h2, h3, h4⟩ := h
  exact ⟨g, k, cap, z, h1, by omega, h3, h4⟩
theorem rright_nv {K A : Nat} {v : Value} {w : World} (s : Nat) (hK : K < 1000) (hs : s ≤ 600) (h : NV K A v w) :
    Calls Tryd.prog 71 #[v, .int .i64 s] w fun e w' => ∃ v' b, e = .returned (.tuple #[v', .bool b]) ∧ NV K (A / 2 ^ s) v' w' ∧ Below w.heap.size w w' := by
  obtain ⟨g, k, cap, z, rfl, hk, hN, hv⟩ := h
  obtain ⟨q, hq⟩ : ∃ q : Nat, (s : Int) / 64 = q := ⟨((s : Int) / 64).toNat, by omega⟩
  obtain ⟨r, hr⟩ : ∃ r : Nat, (s : Int) % 64 = r := ⟨((s : Int) % 64).toNat, by omega⟩
  have hsn : s = 64 * q + r := by omega
  have hr6 : r < 64 := by omega
  have key : ∀ (w' : World) (g' k' cap' : Nat), k' ≤ k → Num w' (some ⟨g', 0, none⟩) k' cap' (shrW z q r) → NV K (A / 2 ^ s) (.slice (some ⟨g', 0, none⟩) k' cap') w' := fun w' g' k' cap' hk' hN' => by
    refine ⟨g', k', cap', _, rfl, by omega, hN', ?_⟩
    rw [← val_more hN'.2.2.2.1 k hk', hsn]
    exact shrW_val hN.2.2.1 hN.2.2.2.1 hr6 k (Nat.le_refl _) hv
  by_cases h0 : r = 0
  · subst h0
    refine (right_z g 0 k cap q s z w (by omega) (by omega) hq (by omega) (by omega) hN).mono ?_
    rintro e w' ⟨g', k', cap', b, rfl, hk', hN', hb⟩
    exact ⟨_, b, rfl, key w' g' k' cap' hk' hN', hb⟩
  · refine (right_p g 0 k cap q r s z w (by omega) (by omega) hr6 (by omega) hq hr (by omega) hN).mono ?_
    rintro e w' ⟨g', k', cap', b, rfl, hk', hN', hb⟩
    exact ⟨_, b, rfl, key w' g' k' cap' hk' hN', hb⟩
theorem rleft_nv {K A : Nat} {v : Value} {w : World} (s : Nat) (hK : K < 1000) (hs : s ≤ 600) (h : NV K A v w) :
    Calls Tryd.prog 84 #[v, .int .i64 s] w fun e w' => ∃ v', e = .returned v' ∧ NV (K + 11) (A * 2 ^ s) v' w' ∧ Below w.heap.size w w' := by
  obtain ⟨g, k, cap, z, rfl, hk, hN, hv⟩ := h
  obtain ⟨q, hq⟩ : ∃ q : Nat, (s : Int) / 64 = q := ⟨((s : Int) / 64).toNat, by omega⟩
  obtain ⟨r, hr⟩ : ∃ r : Nat, (s : Int) % 64 = r := ⟨((s : Int) % 64).toNat, by omega⟩
  have hsn : s = 64 * q + r := by omega
  have hr6 : r < 64 := by omega
  have key : ∀ (w' : World) (g' k' cap' : Nat), k' ≤ k + q + 1 → Num w' (some ⟨g', 0, none⟩) k' cap' (finL z q r) → NV (K + 11) (A * 2 ^ s) (.slice (some ⟨g', 0, none⟩) k' cap') w' := fun w' g' k' cap' hk' hN' => by
    refine ⟨g', k', cap', _, rfl, by omega, hN', ?_⟩
    rw [← val_more hN'.2.2.2.1 (k + q + 1) hk', finL_val hN.2.2.1 hN.2.2.2.1 q hr6, hv, hsn]
    simp
  by_cases h0 : r = 0
  · subst h0
    refine (left_z g 0 k cap q s z w (by omega) (by omega) hq (by omega) (by omega) hN).mono ?_
    rintro e w' ⟨g', k', cap', rfl, hk', hN', hb⟩
    exact ⟨_, rfl, key w' g' k' cap' hk' hN', hb⟩
  · refine (left_p g 0 k cap q r s z w (by omega) (by omega) hr6 (by omega) hq hr (by omega) hN).mono ?_
    rintro e w' ⟨g', k', cap', rfl, hk', hN', hb⟩
    exact ⟨_, rfl, key w' g' k' cap' hk' hN', hb⟩
/-- a natural number without noughts at its end -/
def NT (K V : Nat) (v : Value) (w : World) : Prop := ∃ g k cap z, v = .slice (some ⟨g, 0, none⟩) k cap ∧ k ≤ K ∧ Num w (some ⟨g, 0, none⟩) k cap z ∧ val z k = (V : Int) ∧ sizeL z k = k
theorem NT.nv {K V : Nat} {v : Value} {w : World} (h : NT K V v w) : NV K V v w := by
  obtain ⟨g, k, cap, z, h1, h2, h3, h4, _⟩ := h
  exact ⟨g, k, cap, z, h1, h2, h3, h4⟩
theorem NT.next {K V : Nat} {v : Value} {w w' : World} (h : NT K V v w) (hb : Below w.heap.size w w') : NT K V v w' := by
  obtain ⟨g, k, cap, z, h1, h2, h3, h4, h5⟩ := h
  exact ⟨g, k, cap, z, h1, h2, h3.next hb, h4, h5⟩
theorem rless_nt {K K' A B : Nat} {v v' : Value} {w : World} (hK : K < 1000) (hK' : K' < 1000) (h : NV K A v w) (h' : NV K' B v' w) (hv : B ≤ A) :
    Calls Tryd.prog 20 #[v, v'] w fun e w' => ∃ r, e = .returned r ∧ NT (K + K') (A - B) r w' ∧ Below w.heap.size w w' := by
  obtain ⟨g, k, c, z, rfl, hk, hN, hz⟩ := h
  obtain ⟨g2, k2, c2, z2, rfl, hk2, hN2, hz2⟩ := h'
  refine (rless_tr _ _ k c k2 c2 z z2 w (by omega) (by omega) hN hN2).mono fun e w' ⟨g3, k3, cap3, e1, hk3, hN3, ht, hB⟩ => ⟨_, e1, ⟨g3, k3, cap3, _, rfl, by omega, hN3, ?_, ht⟩, hB⟩
  have ex := val_more hN.2.2.2.1 (max k k2) (by omega)
  have ey := val_more hN2.2.2.2.1 (max k k2) (by omega)
  have e := dif_val hN.2.2.1 hN2.2.2.1 (max k k2)
  rw [borW_end hN.2.2.1 hN2.2.2.1 (by omega), ex, ey] at e
  rw [← val_more hN3.2.2.2.1 _ hk3, val_congr (y := difW z z2) (max k k2) fun i hi => by unfold difZ; rw [if_pos hi]]
  omega
theorem radd_nv {K K' A B : Nat} {v v' : Value} {w : World} (hK : K < 1000000) (hK' : K' < 1000000) (h : NV K A v w) (h' : NV K' B v' w) :
    Calls Tryd.prog 24 #[v, v'] w fun e w' => ∃ r, e = .returned r ∧ NV (K + K' + 1) (A + B) r w' ∧ Below w.heap.size w w' := by
  obtain ⟨g, k, c, z, rfl, hk, hN, hz⟩ := h
  obtain ⟨g2, k2, c2, z2, rfl, hk2, hN2, hz2⟩ := h'
  refine (radd_val _ _ k c k2 c2 z z2 w (by omega) (by omega) hN hN2).mono fun e w' ⟨g3, k3, cap3, z3, e1, hk3, hN3, hv3, hB⟩ => ⟨_, e1, ⟨g3, k3, cap3, z3, rfl, by omega, hN3, ?_⟩, hB⟩
  rw [hv3, hz, hz2]; omega
theorem NT.zero {K V : Nat} {v : Value} {w : World} (h : NT K V v w) : ∃ g k cap, v = .slice (some ⟨g, 0, none⟩) k cap ∧ k ≤ K ∧ (k = 0 ↔ V = 0) := by
  obtain ⟨g, k, cap, z, h1, h2, h3, h4, h5⟩ := h
  refine ⟨g, k, cap, h1, h2, ?_⟩
  constructor
  · intro hk; subst hk
    have : val z 0 = 0 := rfl
    omega
  · intro hV
    rcases Nat.eq_zero_or_pos k with hk | hk
    · exact hk
    · exfalso
      have ht := sizeL_top (x := z) k (by omega)
      rw [h5] at ht
      obtain ⟨j, rfl⟩ : ∃ j, k = j + 1 := ⟨k - 1, by omega⟩
      have hs : val z (j + 1) = val z j + z j * 18446744073709551616 ^ j := rfl
      have hb := val_bd h3.2.2.1 j
      have hp := pw_pos j
      have hj := h3.2.2.1 j
      have hz : z j ≠ 0 := ht
      have : 1 * 18446744073709551616 ^ j ≤ z j * 18446744073709551616 ^ j := Int.mul_le_mul_of_nonneg_right (by omega) (Int.le_of_lt hp)
      omega
end Go.Proofs.YthcndcanahhbcaaDoor

/-
  What the document's own Bits, Number, Field, Lay and Good do, by value.
-/
set_option linter.unusedVariables false
set_option linter.unusedSectionVars false
set_option linter.unusedSimpArgs false
set_option maxRecDepth 20000
namespace Go.Proofs.YthcndcanahhbcaaDoor
open Go.RowKit
attribute [local go_sem ↓] Go.wp_at_zero Go.wp_at_succ

theorem nv_low {k V : Nat} {z : Nat → Int} (hz : Words z) (h0 : ∀ i, k ≤ i → z i = 0) (hv : val z k = (V : Int)) : val z 4 = ((V % 2 ^ 256 : Nat) : Int) := by
  have h1 : val z (4 + k) = (V : Int) := by rw [val_more h0 (4 + k) (by omega), hv]
  rw [val_split z 4 k] at h1
  have hb := val_bd hz 4
  have e4 : (18446744073709551616 : Int) ^ 4 = ((2 ^ 256 : Nat) : Int) := by decide
  rw [e4] at h1 hb
  have h5 := congrArg (· % ((2 ^ 256 : Nat) : Int)) h1
  simp only [Int.add_mul_emod_self_right, Int.emod_eq_of_lt hb.1 hb.2] at h5
  rw [h5]
  rfl
set_option maxHeartbeats 1000000 in
theorem bits_num (g k cap : Nat) (z : Nat → Int) (w : World) (h : Num w (some ⟨g, 0, none⟩) k cap z) :
    Calls Tryd.prog 50 #[.slice (some ⟨g, 0, none⟩) k cap] w fun e w' => e = .returned (.agg (arrOf z 4)) ∧ Below w.heap.size w w' := by
  have hw := fun (i : Nat) (o1 o2 : Obj) => word_any (some ⟨g, 0, none⟩) k cap i z ((w.alloc o1).alloc o2) ((h.next (below1 w _)).next (below1 _ _))
  clear h
  go_enter Tryd.func50, Tryd.ntmps50
  go_wp2
  go_loopw [4, 5] (fun u4 i wr => ∃ (j : Nat) (ss : Array Value), j ≤ 4 ∧ i = .int .i64 j ∧ ss.size = 4 ∧ (∀ q h, ss[q]'h = Value.int .u64 (if q < j then z q else 0)) ∧ wr = (w.alloc (.cells #[.int .u64 0, .int .u64 0, .int .u64 0, .int .u64 0] 27)).alloc (.cells ss 27)) (fun _ i _ => 4 - (intOf i).toNat)
  case atStart => exact ⟨0, _, Nat.zero_le _, rfl, rfl, by intro q h; have h' : q < 4 := h; match q, h' with | 0, _ => rfl | 1, _ => rfl | 2, _ => rfl | 3, _ => rfl, rfl⟩
  case round =>
    obtain ⟨j, ss, hj, rfl, hsz, hss, rfl⟩ := hrel
    by_cases h4 : j < 4
    · have h4i : (j : Int) < 4 := by omega
      have h4s : j < ss.size := by omega
      have hsk : ss[j]? = some (.int .u64 0) := by rw [Array.getElem?_eq_getElem h4s, hss j h4s, if_neg (by omega)]
      have HR : Hid (∀ (i : Nat) (h : i < (ss.setIfInBounds j (.int .u64 (z j))).size), (ss.setIfInBounds j (.int .u64 (z j)))[i]'h = Value.int .u64 (if i < j + 1 then z i else 0)) := set_next hss
      have hwj := hw j (.cells #[.int .u64 0, .int .u64 0, .int .u64 0, .int .u64 0] 27) (.cells ss 27)
      clear hss hw
      go_wp2_with (go_at_call 45; refine hwj.mono ?_; rintro e w' ⟨rfl, rfl⟩)
      go_roundw
      case rel => exact ⟨j + 1, ss.setIfInBounds j (.int .u64 (z j)), by omega, by go_num, by simp [hsz], HR.out, rfl⟩
      case measure => simp [intOf]; omega
    · obtain rfl : j = 4 := by omega
      have hss' : ∀ q h, ss[q]'h = Value.int .u64 (z q) := by
        intro q h; rw [hss q h, if_pos (by omega)]
      clear hss hw
      go_wp2
      exact bodyPost_ret (v := .agg (arrOf z 4)) (by simp [results, Tryd.results50, go_sem]; rfl) rfl ⟨rfl, ((Below.refl _ _).alloc (Nat.le_refl _) _).alloc (by simp) _⟩
theorem bits_nv {K V : Nat} {v : Value} {w : World} (h : NV K V v w) :
    Calls Tryd.prog 50 #[v] w fun e w' => e = .returned (A4 V) ∧ Below w.heap.size w w' := by
  obtain ⟨g, k, cap, z, rfl, hk, hN, hv⟩ := h
  refine (bits_num g k cap z w hN).mono ?_
  rintro e w' ⟨rfl, hb⟩
  refine ⟨?_, hb⟩
  rw [arr_A4 hN.2.2.1 (nv_low hN.2.2.1 hN.2.2.2.1 hv)]
set_option maxHeartbeats 1000000 in
theorem number_nv {K V : Nat} {v : Value} {w : World} (h : NV K V v w) (hK : K < 1000) (hV : V < 9223372036854775808) :
    Calls Tryd.prog 49 #[v] w fun e w' => e = .returned (.int .i64 V) ∧ w' = w := by
  obtain ⟨g, k, cap, z, rfl, hk, hN, hv⟩ := h
  obtain ⟨h1, h2, h3, h4, h5⟩ := hN
  rcases h5 with ⟨h5, _⟩ | ⟨b, off, e, hb, hc⟩
  · cases h5
  · cases e
    rcases Nat.eq_zero_or_pos k with hk0 | hk0
    · subst hk0
      have : V = 0 := by have : val z 0 = 0 := rfl
                         omega
      subst this
      go_enter Tryd.func49, Tryd.ntmps49
      go_wp2
      go_ret
      exact ⟨rfl, rfl⟩
    · have hc0 := hc 0 hk0
      have hz0 := h3 0
      have e0 : z 0 = (V : Int) := by
        have hl := nv_low h3 h4 hv
        obtain ⟨j, rfl⟩ : ∃ j, k = 1 + j := ⟨k - 1, by omega⟩
        have hs := val_split z 1 j
        have hb2 := val_bd (segW_words h3 1 j) j
        have h10 : val z 1 = z 0 := by show val z 0 + z 0 * 18446744073709551616 ^ 0 = z 0; simp [val]
        rw [hv, h10] at hs
        simp only [Int.pow_one] at hs
        have hm : 0 ≤ val (segW z 1 j) j := hb2.1
        by_cases hp : 0 < val (segW z 1 j) j
        · exfalso; omega
        · have : val (segW z 1 j) j = 0 := by omega
          rw [this] at hs; omega
      have hk1 : ¬ ((k : Int) = 0) := by omega
      rw [e0] at hc0
      simp only [Nat.add_zero] at hc0
      have hkb : (k == 0) = false := by simp; omega
      have hki : (0 : Int) < k := by omega
      clear hc h3 h4 hv e0 hz0
      go_enter Tryd.func49, Tryd.ntmps49
      go_wp2
      go_ret
      exact ⟨rfl, rfl⟩
theorem box_nv {w0 w : World} {B : Nat} {t : TypeId} (hB : B < 2 ^ 256) (hb : Below (w0.alloc (.cells #[.int .u64 (W4 B 0), .int .u64 (W4 B 1), .int .u64 (W4 B 2), .int .u64 (W4 B 3)] t)).heap.size (w0.alloc (.cells #[.int .u64 (W4 B 0), .int .u64 (W4 B 1), .int .u64 (W4 B 2), .int .u64 (W4 B 3)] t)) w) :
    NV 4 B (.slice (some ⟨w0.heap.size, 0, none⟩) 4 4) w :=
  ⟨_, 4, 4, _, rfl, Nat.le_refl _, box_num (W4_words B) (A4_get B) hb, by
    rw [val_congr (x := lowW (W4 B) 4) (y := W4 B) 4 (fun i hi => lowW_lt hi), W4_val4 hB]⟩
set_option maxHeartbeats 1000000 in
theorem field_any (B at_ n : Nat) (w : World) (hB : B < 2 ^ 256) (ha : at_ ≤ 600) (hn : n ≤ 600) :
    Calls Tryd.prog 48 #[A4 B, .int .i64 at_, .int .i64 n] w fun e w' => ∃ r, e = .returned r ∧ NT 19 (B / 2 ^ at_ % 2 ^ n) r w' ∧ Below w.heap.size w w' := by
  have hbx := box_nv (w0 := w) (B := B) (t := 27) hB (Below.refl _ _)
  go_enter Tryd.func48, Tryd.ntmps48
  go_wp2_with (first
    | (have := hA2; go_at_call 84; refine (rleft_nv n (by decide) hn hh).mono ?_; rintro e w3 ⟨v3, rfl, hl, hb3⟩; replace hx := hx.next hb3; have hA3 := bnext hA2 hb3)
    | (have := hA1; go_at_call 71; refine (rright_nv n (by decide) hn hx).mono ?_; rintro e w2 ⟨v2, b2, rfl, hh, hb2⟩; replace hx := hx.next hb2; have hA2 := bnext hA1 hb2)
    | (go_at_call 71; refine (rright_nv at_ (by decide) ha hbx).mono ?_; rintro e w1 ⟨v1, b1, rfl, hx, hb1⟩; have hA1 := bnext (w0 := w) (by (repeat (first | with_reducible assumption | with_reducible exact Below.refl _ _ | with_reducible refine Below.setCell ?_ (by first | omega | (dsimp only; omega) | (simp <;> omega)) _ | with_reducible refine Below.alloc ?_ (by first | omega | (simp <;> omega)) _ | with_reducible refine Below.drew ?_))) hb1)
    | (go_at_call 20; refine (rless_nt (by decide) (by decide) hx hl (Nat.div_mul_le_self _ _)).mono ?_; rintro e w4 ⟨v4, rfl, hr, hb4⟩; have hA4 := bnext hA3 hb4))
  go_ret
  refine ⟨_, rfl, ?_, hA4⟩
  rw [show B / 2 ^ at_ % 2 ^ n = B / 2 ^ at_ - B / 2 ^ at_ / 2 ^ n * 2 ^ n by have := Nat.div_add_mod' (B / 2 ^ at_) (2 ^ n); omega]
  exact hr
end Go.Proofs.YthcndcanahhbcaaDoor

/-
  What the document's own Lay, Good and Is do: contracts.
-/
set_option linter.unusedVariables false
set_option linter.unusedSectionVars false
set_option linter.unusedSimpArgs false
set_option maxRecDepth 20000
namespace Go.Proofs.YthcndcanahhbcaaDoor
open Go.RowKit

set_option maxHeartbeats 1000000 in
theorem lay_any (B A at_ K : Nat) (v : Value) (w : World) (hB : B < 2 ^ 256) (hK : K < 900) (ha : at_ ≤ 600) (h : NV K A v w) :
    Calls Tryd.prog 97 #[A4 B, v, .int .i64 at_] w fun e w' => e = .returned (A4 (B + A * 2 ^ at_)) ∧ Below w.heap.size w w' := by
  have c52 : ∀ W, Below w.heap.size w W → Calls Tryd.prog 84 #[v, .int .i64 at_] W fun e w' => ∃ v', e = .returned v' ∧ NV (K + 11) (A * 2 ^ at_) v' w' ∧ Below W.heap.size W w' := fun W hW => rleft_nv at_ (by omega) ha (h.next hW)
  clear h
  go_enter Tryd.func97, Tryd.ntmps97
  go_wp2
  go_region_with (first
    | (go_at_call 84; refine (c52 _ (by (repeat (first | with_reducible assumption | with_reducible exact Below.refl _ _ | with_reducible refine Below.setCell ?_ (by first | omega | (dsimp only; omega) | (simp <;> omega)) _ | with_reducible refine Below.alloc ?_ (by first | omega | (simp <;> omega)) _ | with_reducible refine Below.drew ?_)))).mono ?_; rintro e w1 ⟨v1, rfl, hl, hb1⟩; have hbx := box_nv (w0 := w) (B := B) (t := 27) hB (bnext (by (repeat (first | with_reducible assumption | with_reducible exact Below.refl _ _ | with_reducible refine Below.setCell ?_ (by first | omega | (dsimp only; omega) | (simp <;> omega)) _ | with_reducible refine Below.alloc ?_ (by first | omega | (simp <;> omega)) _ | with_reducible refine Below.drew ?_))) hb1); obtain ⟨hc1, hf1⟩ := bcell hb1; have hz1_0 : w.heap.size < w1.heap.size := lt_below hb1 (by first | with_reducible assumption | (simp; done) | (simp; omega)); have hl1_0 := Nat.le_of_lt hz1_0; have hz1_1 : w.heap.size + 1 < w1.heap.size := lt_below hb1 (by first | with_reducible assumption | (simp; done) | (simp; omega)); have hl1_1 := Nat.le_of_lt hz1_1; have hA1 := bnext (w0 := w) (by (repeat (first | with_reducible assumption | with_reducible exact Below.refl _ _ | with_reducible refine Below.setCell ?_ (by first | omega | (dsimp only; omega) | (simp <;> omega)) _ | with_reducible refine Below.alloc ?_ (by first | omega | (simp <;> omega)) _ | with_reducible refine Below.drew ?_))) hb1; have hs1 := hA1.size; clear hb1)
    | (go_at_call 24; refine (radd_nv (by decide) (by omega) hbx hl).mono ?_; rintro e w2 ⟨v2, rfl, hs, hb2⟩; obtain ⟨hc2, hf2⟩ := bcell hb2; have hz2_0 : w.heap.size < w2.heap.size := lt_below hb2 (by first | with_reducible assumption | (simp; done) | (simp; omega)); have hl2_0 := Nat.le_of_lt hz2_0; have hz2_1 : w.heap.size + 1 < w2.heap.size := lt_below hb2 (by first | with_reducible assumption | (simp; done) | (simp; omega)); have hl2_1 := Nat.le_of_lt hz2_1; have hA2 := bnext (w0 := w) (by (repeat (first | with_reducible assumption | with_reducible exact Below.refl _ _ | with_reducible refine Below.setCell ?_ (by first | omega | (dsimp only; omega) | (simp <;> omega)) _ | with_reducible refine Below.alloc ?_ (by first | omega | (simp <;> omega)) _ | with_reducible refine Below.drew ?_))) hb2; have hs2 := hA2.size; clear hb2)
    | (go_at_call 50; refine (bits_nv hs).mono ?_; rintro e w3 ⟨rfl, hb3⟩; obtain ⟨hc3, hf3⟩ := bcell hb3; have hz3_0 : w.heap.size < w3.heap.size := lt_below hb3 (by first | with_reducible assumption | (simp; done) | (simp; omega)); have hl3_0 := Nat.le_of_lt hz3_0; have hz3_1 : w.heap.size + 1 < w3.heap.size := lt_below hb3 (by first | with_reducible assumption | (simp; done) | (simp; omega)); have hl3_1 := Nat.le_of_lt hz3_1; have hA3 := bnext (w0 := w) (by (repeat (first | with_reducible assumption | with_reducible exact Below.refl _ _ | with_reducible refine Below.setCell ?_ (by first | omega | (dsimp only; omega) | (simp <;> omega)) _ | with_reducible refine Below.alloc ?_ (by first | omega | (simp <;> omega)) _ | with_reducible refine Below.drew ?_))) hb3; have hs3 := hA3.size; clear hb3))
  have hsm := cell_set_map
  go_wp2
  exact bodyPost_ret (v := A4 (B + A * 2 ^ at_)) (by simp only [results, Tryd.results97]; go_simp) rfl ⟨rfl, by (repeat (first | with_reducible assumption | with_reducible exact Below.refl _ _ | with_reducible refine Below.setCell ?_ (by first | omega | (dsimp only; omega) | (simp <;> omega)) _ | with_reducible refine Below.alloc ?_ (by first | omega | (simp <;> omega)) _ | with_reducible refine Below.drew ?_))⟩
set_option maxHeartbeats 400000 in
theorem rbinary_any (n : Int) (w : World) : Calls Tryd.prog 18 #[.int .i64 n] w fun e w' => e = .returned (.bool (decide (binN n))) ∧ w' = w := by
  by_cases h1 : 1 ≤ n
  · by_cases h2 : n ≤ 6
    · rw [decide_eq_true (show binN n from ⟨h1, h2⟩)]
      go_enter Tryd.func18, Tryd.ntmps18
      go_wp2
      go_ret
      exact ⟨rfl, rfl⟩
    · rw [decide_eq_false (show ¬ binN n from fun h => h2 h.2)]
      go_enter Tryd.func18, Tryd.ntmps18
      go_wp2
      go_ret
      exact ⟨rfl, rfl⟩
  · rw [decide_eq_false (show ¬ binN n from fun h => h1 h.1)]
    go_enter Tryd.func18, Tryd.ntmps18
    go_wp2
    go_ret
    exact ⟨rfl, rfl⟩
theorem rfits4 (n : Int) (B : Nat) (hB : B < 2 ^ 256) (w : World) :
    Calls Tryd.prog 83 #[.int .i64 n, A4 B] w fun x w' => x = .returned (.bool (decide (okN n ∧ B < 2 ^ (widthN n).toNat))) ∧ Below w.heap.size w w' := by
  refine (rfits_any n (W4 B) (W4_words B) _ (A4_get B) rfl w).mono ?_
  rintro x w' ⟨rfl, hb⟩
  refine ⟨?_, hb⟩
  have hwd := (fields_bounds n).2.1
  have e : (fitsP n (W4 B)) ↔ (okN n ∧ B < 2 ^ (widthN n).toNat) := by
    unfold fitsP
    rw [lenL_low]
    have := len4_le (k := (widthN n).toNat) hB
    rw [show (((widthN n).toNat : Nat) : Int) = widthN n by omega] at this
    rw [this]
  rw [decide_eq_decide.2 e]
set_option maxHeartbeats 400000 in
theorem rgood_any (n : Int) (B : Nat) (hB : B < 2 ^ 256) (w : World) :
    Calls Tryd.prog 46 #[.int .i64 n, A4 B] w fun x w' => x = .returned (.bool (decide (goodN n B))) ∧ Below w.heap.size w w' := by
  have c35 := fun w => rbinary_any n w
  have c50 := fun w => rfits4 n B hB w
  by_cases hb : binN n
  · have hF := bin_fields hb
    rw [decide_eq_true hb] at c35
    have e : (okN n ∧ B < 2 ^ (widthN n).toNat) ↔ goodN n B := by
      rw [hF.2.2.2.2.1, Int.toNat_natCast]
      exact ⟨fun h => ⟨hb, h.2⟩, fun h => ⟨hF.1, h.2⟩⟩
    rw [decide_eq_decide.2 e] at c50
    generalize decide (goodN n B) = D at *
    clear hF e hb hB
    go_enter Tryd.func46, Tryd.ntmps46
    go_wp2_with (first
      | (go_at_call 18; refine (c35 _).mono ?_; rintro e w1 ⟨rfl, rfl⟩)
      | (go_at_call 83; refine (c50 _).mono ?_; rintro e w2 ⟨rfl, hb2⟩))
    go_ret
    exact ⟨rfl, bnext (by (repeat (first | with_reducible assumption | with_reducible exact Below.refl _ _ | with_reducible refine Below.setCell ?_ (by first | omega | (dsimp only; omega) | (simp <;> omega)) _ | with_reducible refine Below.alloc ?_ (by first | omega | (simp <;> omega)) _ | with_reducible refine Below.drew ?_))) hb2⟩
  · rw [decide_eq_false hb] at c35
    rw [decide_eq_false (show ¬ goodN n B from fun h => hb h.1)]
    clear hb hB c50
    go_enter Tryd.func46, Tryd.ntmps46
    go_wp2_with (go_at_call 18; refine (c35 _).mono ?_; rintro e w1 ⟨rfl, rfl⟩)
    go_ret
    exact ⟨rfl, by (repeat (first | with_reducible assumption | with_reducible exact Below.refl _ _ | with_reducible refine Below.setCell ?_ (by first | omega | (dsimp only; omega) | (simp <;> omega)) _ | with_reducible refine Below.alloc ?_ (by first | omega | (simp <;> omega)) _ | with_reducible refine Below.drew ?_))⟩
end Go.Proofs.YthcndcanahhbcaaDoor
