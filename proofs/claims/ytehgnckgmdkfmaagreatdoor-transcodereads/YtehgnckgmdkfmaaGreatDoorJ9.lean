/-
  Texts that the proof leans on.
-/
import Derived.Test.YtehgnckgmdkfmaaGreatDoorJ7
set_option linter.unusedVariables false
set_option linter.unusedSimpArgs false
set_option linter.unusedSectionVars false
set_option maxRecDepth 20000
namespace Go.Proofs.YtehgnckgmdkfmaaGreatDoor
open Go.RowKit
/-- the words of x, y's lowest k taken from them -/
def subZ (x y : Nat → Int) (k j : Nat) : Int := if j < k then difW x y j else x j
theorem subZ_next (x y : Nat → Int) (k j : Nat) : (if j = k then difW x y k else subZ x y k j) = subZ x y (k + 1) j := by
  unfold subZ
  by_cases e : j = k
  · subst e
    rw [if_pos rfl, if_pos (by omega)]
  · rw [if_neg e]
    by_cases e2 : j < k
    · rw [if_pos e2, if_pos (by omega)]
    · rw [if_neg e2, if_neg (by omega)]
theorem subZ_at (x y : Nat → Int) (k : Nat) : subZ x y k k = x k := by unfold subZ; rw [if_neg (by omega)]
theorem bor_val {x y b : Int} (hx : 0 ≤ x ∧ x ≤ 18446744073709551615) (hy : 0 ≤ y ∧ y ≤ 18446744073709551615) (hb : 0 ≤ b ∧ b ≤ 1) : (x - y - b) % 18446744073709551616 - bor x y b * 18446744073709551616 = x - y - b := by
  unfold bor; split <;> omega
theorem dif_val {x y : Nat → Int} (hx : Words x) (hy : Words y) : ∀ n, val (difW x y) n - borW x y n * 18446744073709551616 ^ n = val x n - val y n
  | 0 => by simp [val, borW]
  | n + 1 => by
    have ih := dif_val hx hy n
    have h := bor_val (hx n) (hy n) (borW_01 x y n)
    show val (difW x y) n + difW x y n * 18446744073709551616 ^ n - bor (x n) (y n) (borW x y n) * 18446744073709551616 ^ (n + 1) = val x n + x n * 18446744073709551616 ^ n - (val y n + y n * 18446744073709551616 ^ n)
    have hd : difW x y n = (x n - y n - borW x y n) % 18446744073709551616 := rfl
    rw [← hd] at h
    rw [Int.pow_succ]
    generalize (18446744073709551616 : Int) ^ n = P at *
    grind
theorem borW_stop {x y : Nat → Int} (hx : Words x) {k : Nat} (zy : ∀ i, k ≤ i → y i = 0) {i : Nat} (hi : k ≤ i) (h0 : borW x y i = 0) : ∀ j, i ≤ j → borW x y j = 0 ∧ difW x y j = x j := by
  have h1 : ∀ j, i ≤ j → borW x y j = 0 := by
    intro j hj
    induction j with
    | zero => obtain rfl : i = 0 := by omega
              exact h0
    | succ j ih =>
      by_cases e : i = j + 1
      · rw [← e]; exact h0
      · have hb := hx j
        show bor (x j) (y j) (borW x y j) = 0
        rw [ih (by omega), zy j (by omega)]; unfold bor; rw [if_neg (by omega)]
  intro j hj
  refine ⟨h1 j hj, ?_⟩
  have hb := hx j
  unfold difW
  rw [h1 j hj, zy j (by omega)]; omega
/-- no borrow is left over where y is no greater -/
theorem borW_end {x y : Nat → Int} (hx : Words x) (hy : Words y) {n : Nat} (h : val y n ≤ val x n) : borW x y n = 0 := by
  have e := dif_val hx hy n
  have h1 := val_bd (difW_words x y) n
  have h2 := borW_01 x y n
  have h3 := pw_pos n
  by_cases h0 : borW x y n = 0
  · exact h0
  · have : borW x y n = 1 := by omega
    rw [this] at e; omega
section
set_option maxHeartbeats 400000 in
theorem nlen_any (a : Option Addr) (n c : Nat) (x : Nat → Int) (w : World) (hn : n < 100000000) (h : Num w a n c x) :
    Calls Tryz.prog 72 #[.slice a n c] w fun e w' => e = .returned (.int .i64 (lenL x n)) ∧ w = w' := by
  have hb := bare_any a n c x w (by omega) h
  have hle := sizeL_le x n
  by_cases h0 : sizeL x n = 0
  · have HL : Hid (lenL x n = 0) := by show _ = _; simp [lenL, h0]
    rw [h0] at hb
    clear h0 h
    go_enter Tryz.func72, Tryz.ntmps72
    go_wp2_with (go_at_call 28; refine hb.mono ?_; rintro e w' ⟨rfl, rfl⟩)
    go_ret
    exact ⟨ret_int HL.out.symm, rfl⟩
  · obtain ⟨j, hj⟩ : ∃ j, sizeL x n = j + 1 := ⟨sizeL x n - 1, by omega⟩
    have HL : Hid (lenL x n = 64 * (j : Int) + Lib.bitLen (x j).toNat) := by show _ = _; simp [lenL, hj]; omega
    obtain ⟨b, off, rfl, hbs, hc⟩ := h.cells (by omega)
    rw [hj] at hb
    have hcj := hc j (by omega)
    have hbx := h.2.2.1 j
    have hbl := bitLen64 (x j).toNat
    have hj' : j + 1 ≤ n := by omega
    clear h0 hc hj hle h
    have hcl := Tryz.bits_Len64 (x j) w hbx.1 hbx.2
    generalize Lib.bitLen (x j).toNat = L at *
    go_enter Tryz.func72, Tryz.ntmps72
    go_wp2_with (first | (go_at_call 28; refine hb.mono ?_; rintro e w' ⟨rfl, rfl⟩) | (go_at_call 41; refine hcl.mono ?_; rintro e w' ⟨rfl, rfl⟩))
    go_ret
    exact ⟨ret_int (by rw [HL.out]; omega), rfl⟩
set_option maxHeartbeats 400000 in
theorem rlen_nil (w : World) : Calls Tryz.prog 22 #[.slice none 0 0] w fun e w' => e = .returned (.int .i64 0) ∧ w = w' := by
  have hs := size_nil w
  go_enter Tryz.func22, Tryz.ntmps22
  go_wp2_with (go_at_call 40; refine hs.mono ?_; rintro e w' ⟨rfl, rfl⟩)
  go_ret
  exact ⟨rfl, rfl⟩
theorem rlen_num (a : Option Addr) (n c : Nat) (x : Nat → Int) (w : World) (hn : n < 100000000) (h : Num w a n c x) :
    Calls Tryz.prog 22 #[.slice a n c] w fun e w' => e = .returned (.int .i64 (lenL x n)) ∧ w = w' := by
  have h' := h
  obtain ⟨h1, h2, h3, h4, h5⟩ := h'
  rcases h5 with ⟨rfl, rfl⟩ | ⟨b, off, rfl, hb, hc⟩
  · obtain rfl : n = 0 := by omega
    exact rlen_nil w
  · exact (len_any b off n c x w hn h3 hc).mono fun e w' hw => ⟨hw.1, hw.2.symm⟩
end
theorem ncmp_b (a a' : Option Addr) (n c n' c' : Nat) (x y : Nat → Int) (w : World) (hn : n < 4294967296) (hn' : n' < 4294967296) (h : Num w a n c x) (h' : Num w a' n' c' y) :
    Calls Tryz.prog 122 #[.slice a n c, .slice a' n' c'] w fun e w' => e = .returned (.int .i64 (sgn (val x n) (val y n'))) ∧ Below w.heap.size w w' :=
  (ncmp_any a a' n c n' c' x y w hn hn' h h').mono fun e w' ⟨h1, m, hm⟩ => ⟨h1, hm ▸ below_drewN (Below.refl _ _) m⟩
theorem num_none (w : World) : Num w none 0 0 (fun _ => 0) := ⟨Nat.le_refl _, by unfold maxLen; omega, fun _ => (by decide : (0 : Int) ≤ 0 ∧ (0 : Int) ≤ 18446744073709551615), fun _ _ => rfl, Or.inl ⟨rfl, rfl⟩⟩
section
set_option maxHeartbeats 1000000 in
theorem mulAdd_any (a n z C : Int) (w : World) (ha : 0 ≤ a ∧ a ≤ 18446744073709551615) (hn : 0 ≤ n ∧ n ≤ 18446744073709551615) (hz : 0 ≤ z ∧ z ≤ 18446744073709551615) (hC : 0 ≤ C ∧ C ≤ 18446744073709551615) :
    Calls Tryz.prog 151 #[.int .u64 a, .int .u64 n, .int .u64 z, .int .u64 C] w fun e w' => ∃ l h, e = .returned (.tuple #[.int .u64 l, .int .u64 h]) ∧ l + h * 18446744073709551616 = a * n + z + C ∧ (0 ≤ l ∧ l ≤ 18446744073709551615) ∧ (0 ≤ h ∧ h ≤ 18446744073709551615) ∧ w = w' := by
  have hms := mul_step a n z C ha hn hz hC
  have hmul := mul64 a n ha hn w
  have hL0 : 0 ≤ a * n % 18446744073709551616 := Int.emod_nonneg _ (by decide)
  have hA1 := fun w => add64z (a * n % 18446744073709551616) z hL0 hz.1 w
  have hs0 : 0 ≤ (a * n % 18446744073709551616 + z) % 18446744073709551616 := Int.emod_nonneg _ (by decide)
  have hA2 := fun w => add64z ((a * n % 18446744073709551616 + z) % 18446744073709551616) C hs0 hC.1 w
  have ht0 : 0 ≤ ((a * n % 18446744073709551616 + z) % 18446744073709551616 + C) % 18446744073709551616 ∧ ((a * n % 18446744073709551616 + z) % 18446744073709551616 + C) % 18446744073709551616 ≤ 18446744073709551615 := by omega
  generalize ((a * n % 18446744073709551616 + z) % 18446744073709551616 + C) % 18446744073709551616 = t2 at *
  generalize ((a * n % 18446744073709551616 + z) % 18446744073709551616 + C) / 18446744073709551616 = f2 at *
  generalize (a * n % 18446744073709551616 + z) % 18446744073709551616 = t1 at *
  generalize (a * n % 18446744073709551616 + z) / 18446744073709551616 = f1 at *
  generalize a * n % 18446744073709551616 = lo at *
  generalize a * n / 18446744073709551616 = hi at *
  have HMS : Hid (t2 + (hi + f1 + f2) * 18446744073709551616 = a * n + z + C) := hms.1
  have hb1 : 0 ≤ hi + f1 := hms.2.1
  have hb2 : hi + f1 ≤ 18446744073709551615 := hms.2.2.1
  have hb3 : 0 ≤ hi + f1 + f2 := hms.2.2.2.1
  have hb4 : hi + f1 + f2 ≤ 18446744073709551615 := hms.2.2.2.2
  clear hms
  go_enter Tryz.func151, Tryz.ntmps151
  go_wp2_with (go_at_call 79; refine hmul.mono ?_; rintro e w' ⟨rfl, rfl⟩)
  go_ret2
  exact ⟨t2, hi + f1 + f2, rfl, HMS.out, ht0, ⟨hb3, hb4⟩, rfl⟩

set_option maxHeartbeats 1000000 in
theorem addProduct_any (g N off m c k c' : Nat) (a' : Option Addr) (x y : Nat → Int) (n : Int) (w : World) (hm : off + m ≤ N) (hN : N < 4294967296) (hk : k ≤ m) (hx : Words x) (hn : 0 ≤ n ∧ n ≤ 18446744073709551615) (h : Own g N x w) (h' : Num w a' k c' y) (hA : Apart a' g) :
    Calls Tryz.prog 159 #[.slice (some ⟨g, off, none⟩) m c, .slice a' k c', .int .u64 n] w fun e w' => ∃ C z, e = .returned (.int .u64 C) ∧ (0 ≤ C ∧ C ≤ 18446744073709551615) ∧ Own g N z w' ∧ Words z ∧ val z N + C * 18446744073709551616 ^ (off + k) = val x N + n * val y k * 18446744073709551616 ^ off ∧ (∀ i, off + k ≤ i → z i = x i) ∧ Upd g w w' := by
  have hy := h'.2.2.1
  go_enter Tryz.func159, Tryz.ntmps159
  go_wp2
  go_loopw [7, 8, 9, 12, 17] (fun cv u8 u9 i u17 wr => ∃ (j : Nat) (C : Int) (z : Nat → Int), j ≤ k ∧ i = .int .i64 j ∧ cv = .int .u64 C ∧ (0 ≤ C ∧ C ≤ 18446744073709551615) ∧ Own g N z wr ∧ Words z ∧ Hid (val z N + C * 18446744073709551616 ^ (off + j) = val x N + n * val y j * 18446744073709551616 ^ off) ∧ (∀ i, off + j ≤ i → z i = x i) ∧ Upd g w wr) (fun _ _ _ i _ _ => k - (intOf i).toNat)
  case atStart => exact ⟨0, 0, x, Nat.zero_le _, rfl, rfl, by decide, h, hx, by show _ = _; simp [val], fun _ _ => rfl, Upd.refl _ _⟩
  case round =>
    obtain ⟨j, C, z, hj, rfl, rfl, hCb, hO, hzw, hv, hzx, hU⟩ := hrel
    by_cases hlt : j < k
    · have hji : (j : Int) < k := by omega
      have hjm : (j : Int) < m := by omega
      obtain ⟨b, off', rfl, hb, hc⟩ := (hU.num' hA h').cells (by omega)
      have hcj := hc j hlt
      have hco := hO.cell (off + j) (by omega)
      have hfo := hO.frozen (off + j)
      have hma := fun w => mulAdd_any (y j) n (z (off + j)) C w (hy j) hn (hzw (off + j)) hCb
      have HO : Hid (Own g N z wr) := hO
      have HU : Hid (Upd g w wr) := hU
      have HZW : Hid (Words z) := hzw
      have HZX : Hid (∀ i, off + j ≤ i → z i = x i) := hzx
      clear hO hU hc h h' hA hx hy hzw hzx
      go_wp2_with (go_at_call 151; refine (hma _).mono ?_; rintro e w1 ⟨l, hi, rfl, hlh, hlb, hhb, rfl⟩)
      go_roundw
      case rel =>
        refine ⟨j + 1, hi, fun i => if i = off + j then l else z i, by omega, by go_num, rfl, hhb, HO.out.set (off + j) l, upd_words HZW.out hlb, ?_, ?_, HU.out.set (off + j) _⟩
        · show _ = _
          rw [val_set z (off + j) l N (by omega)]
          exact mul_inner _ _ _ _ _ _ _ _ _ off j hv.out (by rw [hlh, Int.mul_comm (y j) n])
        · intro i hi2
          exact (if_neg (show ¬ i = off + j by omega)).trans (HZX.out i (by omega))
      case measure => simp [intOf]; omega
    · obtain rfl : j = k := by omega
      have HO : Hid (Own g N z wr) := hO
      have HU : Hid (Upd g w wr) := hU
      have HZW : Hid (Words z) := hzw
      have HZX : Hid (∀ i, off + j ≤ i → z i = x i) := hzx
      clear hO hU h h' hA hx hy hzw hzx
      go_wp2
      go_ret
      exact ⟨C, z, rfl, hCb, HO.out, HZW.out, hv.out, HZX.out, HU.out⟩

theorem apart_of {w : World} {a : Option Addr} {n c : Nat} {x : Nat → Int} (h : Num w a n c x) : Apart a w.heap.size := by
  intro p hp
  rcases h.2.2.2.2 with ⟨h, _⟩ | ⟨b, off, h, hb, _⟩
  · rw [h] at hp; cases hp
  · rw [h] at hp; cases hp; exact Nat.ne_of_lt hb
theorem val_zero : ∀ m, val (fun _ => 0) m = 0 := by intro m; induction m with | zero => rfl | succ m ih => simp only [val]; rw [ih]; simp

set_option maxHeartbeats 2000000 in
theorem nmul_any (a a' : Option Addr) (n c n' c' : Nat) (x y : Nat → Int) (w : World) (hn : n < 4000000000) (hn' : n' < 4000000000) (h : Num w a n c x) (h' : Num w a' n' c' y) (hs : sizeL x n + sizeL y n' ≤ 2000) :
    Calls Tryz.prog 142 #[.slice a n c, .slice a' n' c'] w fun e w' => ∃ g k cap z, e = .returned (.tuple #[.slice (some ⟨g, 0, none⟩) k cap, .int .i64 0]) ∧ k ≤ sizeL x n + sizeL y n' ∧ Num w' (some ⟨g, 0, none⟩) k cap z ∧ val z k = val x n * val y n' ∧ sizeL z k = k ∧ Below w.heap.size w w' := by
  have hb := bare_any a n c x w (by omega) h
  have hb' := bare_any a' n' c' y w (by omega) h'
  rw [← val_bare n, ← val_bare n']
  have hx := h.2.2.1
  have hy := h'.2.2.1
  have hle := sizeL_le x n
  have hle' := sizeL_le y n'
  have hN := h.bare
  have hN' := h'.bare
  generalize sizeL x n = s at *
  generalize sizeL y n' = s' at *
  clear h h'
  obtain ⟨N, hNs⟩ : ∃ N, s + s' = N := ⟨_, rfl⟩
  have hNi : (s : Int) + s' = N := by omega
  have hmk := fun w => make_any ((s : Int) + s') N hNi (by omega) w
  have hN2 : (s : Int) + s' ≤ 2000 := by omega
  have HNS : Hid (s + s' = N) := hNs
  have hA := apart_of hN
  have hA' := apart_of hN'
  have hO := Own.new w (fun _ => 0) N
  have hBW := below1 w (.cells (arrOf (fun _ => 0) N) 22)
  have hnx := hN.next hBW
  have hny := hN'.next hBW
  have hap := fun wr z off hO hzw hU (hoff : off + s ≤ N) n hn => addProduct_any w.heap.size N off (N - off) (N - off) s c a z x n wr (by omega) (by omega) (by omega) hzw hn hO (Upd.num' (w := w.alloc (.cells (arrOf (fun _ => 0) N) 22)) hU hA hnx) hA
  have HBW : Hid (Below w.heap.size w (w.alloc (.cells (arrOf (fun _ => 0) N) 22))) := hBW
  clear hBW hN hN' hNi hNs
  go_enter Tryz.func142, Tryz.ntmps142
  go_wp2_with (first | (go_at_call_of 28 (Value.slice a n c); refine hb.mono ?_; rintro e w' ⟨rfl, rfl⟩) | (go_at_call_of 28 (Value.slice a' n' c'); refine hb'.mono ?_; rintro e w' ⟨rfl, rfl⟩))
  generalize w.alloc (.cells (arrOf (fun _ => 0) N) 22) = wA at *
  go_loopw [9, 10, 29] (fun u9 u10 i wr => ∃ (j : Nat) (z : Nat → Int), j ≤ s' ∧ i = .int .i64 j ∧ Own w.heap.size N z wr ∧ Words z ∧ (∀ q, s + j ≤ q → z q = 0) ∧ Hid (val z N = val x s * val y j) ∧ Upd w.heap.size wA wr) (fun _ _ i _ => s' - (intOf i).toNat)
  case atStart => exact ⟨0, fun _ => 0, Nat.zero_le _, rfl, hO, fun _ => (by decide : (0 : Int) ≤ 0 ∧ (0 : Int) ≤ 18446744073709551615), fun _ _ => rfl, by show _ = _; rw [val_zero]; simp [val], Upd.refl _ _⟩
  case round =>
    clear hO
    obtain ⟨j, z, hj, rfl, hO, hzw, hz0, hv, hU⟩ := hrel
    by_cases hlt : j < s'
    · have hji : (j : Int) < s' := by omega
      obtain ⟨b, off', rfl, hbb, hc⟩ := (hU.num' hA' hny).cells (by omega)
      have hcj := hc j hlt
      have hap1 := hap wr z j hO hzw hU (by have := HNS.out; omega) (y j) (hy j)
      have hjN : (j : Int) ≤ N := by have := HNS.out; omega
      have hjs : (j : Int) + s < N := by have := HNS.out; omega
      have e1 : ((j : Int) + s).toNat = j + s := by omega
      have HU : Hid (Upd w.heap.size wA wr) := hU
      have HZ0 : Hid (∀ q, s + j ≤ q → z q = 0) := hz0
      clear hO hU hc hzw hz0 hap hx hy hA hA' hnx hny
      go_wp2_with (go_at_call 159; refine hap1.mono ?_; rintro e w1 ⟨C, z1, rfl, hCb, hO1, hw1, hv1, hzx1, hU1⟩; have hc1 := hO1.cell (j + s) (by have := HNS.out; omega); have hf1 := hO1.frozen (j + s))
      go_roundw
      case rel =>
        have e2 : z1 (j + s) = 0 := by rw [hzx1 (j + s) (Nat.le_refl _)]; exact HZ0.out _ (by omega)
        refine ⟨j + 1, fun i => if i = j + s then C else z1 i, by omega, by go_num, hO1.set (j + s) C, upd_words hw1 hCb, ?_, ?_, (HU.out.trans hU1).set (j + s) _⟩
        · intro q hq
          exact (if_neg (show ¬ q = j + s by omega)).trans ((hzx1 q (by omega)).trans (HZ0.out q (by omega)))
        · show _ = _
          rw [val_set z1 (j + s) C N (by have := HNS.out; omega), e2, Int.sub_zero, hv1, hv.out]
          show _ = val x s * (val y j + y j * 18446744073709551616 ^ j)
          generalize (18446744073709551616 : Int) ^ j = P
          grind
      case measure => simp [intOf]; omega
    · obtain rfl : j = s' := by omega
      have hN2' := hO.num hzw 0 N N (by omega) (Nat.le_refl _) (by unfold maxLen; have := HNS.out; omega)
      have hbr := bare_any (some ⟨w.heap.size, 0, none⟩) N N (segW z 0 N) wr (by have := HNS.out; omega) hN2'
      have HN2 : Hid (Num wr (some ⟨w.heap.size, 0, none⟩) (sizeL (segW z 0 N) N) N (segW z 0 N)) := hN2'.bare
      have HV2 : Hid (val (segW z 0 N) (sizeL (segW z 0 N) N) = val x s * val y j) := by
        show _ = _
        rw [val_bare, val_congr (x := segW z 0 N) (y := z) N fun i hi => by rw [segW_lt _ 0 N i hi, Nat.zero_add], hv.out]
      have HS2 : Hid (sizeL (segW z 0 N) (sizeL (segW z 0 N) N) = sizeL (segW z 0 N) N) := sizeL_sizeL _ _
      have HLE : Hid (sizeL (segW z 0 N) N ≤ N) := sizeL_le _ _
      generalize segW z 0 N = z2 at *
      generalize sizeL z2 N = k at *
      have HB2 : Hid (Below w.heap.size w wr) := HBW.out.trans (hU.below (Nat.le_refl _))
      clear hO hU hN2' hx hy hzw hz0 hap hA hA' hnx hny
      go_wp2_with (go_at_call 28; refine hbr.mono ?_; rintro e w3 ⟨rfl, rfl⟩)
      go_ret2
      exact ⟨_, k, N, z2, rfl, by rw [HNS.out]; exact HLE.out, HN2.out, HV2.out, HS2.out, HB2.out⟩
end
theorem wrap_mod (a : Int) : IntKind.u64.wrap a = a % 18446744073709551616 := by
  simp only [IntKind.wrap, IntKind.bits, IntKind.signed]
  simp
theorem p2_pos (n : Nat) : (0 : Int) < 2 ^ n := Int.pow_pos (by decide)
theorem p2_split {r : Nat} (hr : r ≤ 64) : (2 : Int) ^ (64 - r) * 2 ^ r = 18446744073709551616 := by
  rw [← Int.pow_add, show 64 - r + r = 64 by omega]; rfl
/-- what goes beyond a word that is shifted by r -/
def hiW (x : Int) (r : Nat) : Int := x * 2 ^ r / 18446744073709551616
theorem hiW_eq (x : Int) {r : Nat} (hr : r ≤ 64) : x / 2 ^ (64 - r) = hiW x r := by
  unfold hiW
  rw [← p2_split hr, Int.mul_ediv_mul_of_pos_left _ _ (p2_pos r)]
theorem hiW_bd {x : Int} (hx : 0 ≤ x ∧ x ≤ 18446744073709551615) (r : Nat) : 0 ≤ hiW x r ∧ hiW x r < 2 ^ r := by
  have hp := p2_pos r
  unfold hiW
  refine ⟨Int.ediv_nonneg (Int.mul_nonneg hx.1 (by omega)) (by decide), Int.ediv_lt_of_lt_mul (by decide) ?_⟩
  rw [Int.mul_comm (2 ^ r)]
  exact Int.mul_lt_mul_of_pos_right (by omega) hp
theorem p2_le {r : Nat} (hr : r < 64) : (2 : Int) ^ r ≤ 9223372036854775808 := by
  have h := p2_split (show r ≤ 64 by omega)
  have h1 : (2 : Int) ^ (64 - r) = 2 ^ (63 - r) * 2 := by rw [← Int.pow_succ]; congr 1; omega
  have h2 := p2_pos (63 - r)
  rw [h1] at h
  have : (1 : Int) * (2 * 2 ^ r) ≤ 2 ^ (63 - r) * (2 * 2 ^ r) := Int.mul_le_mul_of_nonneg_right (by omega) (by have := p2_pos r; omega)
  rw [← Int.mul_assoc] at this
  have e : (2 : Int) ^ (63 - r) * (2 * 2 ^ r) = 18446744073709551616 := by rw [← Int.mul_assoc]; exact h
  omega
/-- the two parts of a shifted word have no bit in common -/
theorem or_shl {y b : Int} {r : Nat} (hr : r < 64) (hy : 0 ≤ y) (hb : 0 ≤ b ∧ b < 2 ^ r) : orW b (IntKind.u64.wrap (y * 2 ^ r)) = y * 2 ^ r % 18446744073709551616 + b := by
  have hle := p2_le hr
  have hp := p2_pos r
  have hme : y * 2 ^ r % (2 ^ (64 - r) * 2 ^ r) = y % 2 ^ (64 - r) * 2 ^ r := by
    have := Int.mul_emod_mul_of_pos y (2 ^ (64 - r)) hp
    rw [Int.mul_comm y, Int.mul_comm (2 ^ (64 - r)), this, Int.mul_comm]
  rw [orW_eq b _ (by omega) (wrap_word _), wrap_mod, ← p2_split (show r ≤ 64 by omega), hme]
  have hm0 := Int.emod_nonneg y (show (2 : Int) ^ (64 - r) ≠ 0 by have := p2_pos (64 - r); omega)
  obtain ⟨u, hu⟩ := Int.eq_ofNat_of_zero_le hm0
  obtain ⟨b', rfl⟩ := Int.eq_ofNat_of_zero_le hb.1
  rw [hu]
  have e1 : ((u : Int) * 2 ^ r).toNat = 2 ^ r * u := by
    have : ((u : Int) * 2 ^ r) = ((2 ^ r * u : Nat) : Int) := by rw [Int.natCast_mul, powCast, Int.mul_comm]
    rw [this]; exact Int.toNat_natCast _
  have hb2 : b' < 2 ^ r := by
    have h := hb.2
    rw [← powCast] at h; omega
  rw [e1, Int.toNat_natCast, Nat.or_comm, ← Nat.two_pow_add_eq_or_of_lt hb2]
  rw [Int.natCast_add, Int.natCast_mul, powCast, Int.mul_comm]
/-- what comes in from the word below -/
def prevW (x : Nat → Int) (r i : Nat) : Int := if i = 0 then 0 else hiW (x (i - 1)) r
/-- the words of x times 2^r -/
def shW (x : Nat → Int) (r i : Nat) : Int := x i * 2 ^ r % 18446744073709551616 + prevW x r i
theorem prevW_bd {x : Nat → Int} (hx : Words x) (r i : Nat) : 0 ≤ prevW x r i ∧ prevW x r i < 2 ^ r := by
  unfold prevW; split
  · have := p2_pos r; omega
  · exact hiW_bd (hx _) r
theorem shW_or {x : Nat → Int} (hx : Words x) {r : Nat} (hr : r < 64) (i : Nat) : orW (prevW x r i) (IntKind.u64.wrap (x i * 2 ^ r)) = shW x r i := or_shl hr (hx i).1 (prevW_bd hx r i)
theorem prevW_word {x : Nat → Int} (hx : Words x) {r : Nat} (hr : r < 64) (i : Nat) : 0 ≤ prevW x r i ∧ prevW x r i ≤ 18446744073709551615 := by
  have := prevW_bd hx r i
  have := p2_le hr
  omega
theorem shW_words {x : Nat → Int} (hx : Words x) {r : Nat} (hr : r < 64) : Words (shW x r) := fun i => by
  rw [← shW_or hx hr i]; exact orW_word _ _ (prevW_word hx hr i) (wrap_word _)
theorem sh_val (x : Nat → Int) (r : Nat) : ∀ m, val (shW x r) m + prevW x r m * 18446744073709551616 ^ m = val x m * 2 ^ r
  | 0 => by simp [val, prevW]
  | m + 1 => by
    have ih := sh_val x r m
    show val (shW x r) m + shW x r m * 18446744073709551616 ^ m + prevW x r (m + 1) * 18446744073709551616 ^ (m + 1) = (val x m + x m * 18446744073709551616 ^ m) * 2 ^ r
    have e1 : prevW x r (m + 1) = x m * 2 ^ r / 18446744073709551616 := rfl
    have e2 : shW x r m = x m * 2 ^ r % 18446744073709551616 + prevW x r m := rfl
    have e3 := Int.emod_add_mul_ediv (x m * 2 ^ r) 18446744073709551616
    rw [e1, e2, Int.pow_succ]
    generalize x m * 2 ^ r / 18446744073709551616 = K at *
    generalize x m * 2 ^ r % 18446744073709551616 = R at *
    generalize (18446744073709551616 : Int) ^ m = P at *
    grind
theorem sh_end {x : Nat → Int} {n : Nat} (zx : ∀ i, n ≤ i → x i = 0) (r m : Nat) (h : n < m) : val (shW x r) m = val x n * 2 ^ r := by
  have e := sh_val x r m
  have e1 : prevW x r m = 0 := by
    unfold prevW hiW; rw [if_neg (by omega), zx (m - 1) (by omega)]; simp
  rw [e1, val_more zx m (by omega)] at e
  omega
/-- words that are moved up by q -/
def upW (f : Nat → Int) (q j : Nat) : Int := if q ≤ j then f (j - q) else 0
theorem val_up (f : Nat → Int) (q : Nat) : ∀ m, val (upW f q) (q + m) = val f m * 18446744073709551616 ^ q
  | 0 => by
    have : ∀ k, k ≤ q → val (upW f q) k = 0 := by
      intro k
      induction k with
      | zero => intro _; rfl
      | succ k ih =>
        intro hk
        show val (upW f q) k + upW f q k * 18446744073709551616 ^ k = 0
        rw [ih (by omega)]
        unfold upW; rw [if_neg (by omega)]; simp
    rw [Nat.add_zero, this q (Nat.le_refl _)]; simp [val]
  | m + 1 => by
    have ih := val_up f q m
    show val (upW f q) (q + m) + upW f q (q + m) * 18446744073709551616 ^ (q + m) = (val f m + f m * 18446744073709551616 ^ m) * 18446744073709551616 ^ q
    rw [ih]
    have e : upW f q (q + m) = f m := by unfold upW; rw [if_pos (by omega)]; congr 1; omega
    rw [e, Int.pow_add]
    generalize (18446744073709551616 : Int) ^ m = P
    generalize (18446744073709551616 : Int) ^ q = Q
    grind
theorem finL_up {x : Nat → Int} (hx : Words x) (q : Nat) {r : Nat} (hr : r < 64) : finL x q r = upW (shW x r) q := by
  funext j
  unfold finL upW
  by_cases h : q ≤ j
  · rw [if_pos h, if_pos h, ← shW_or hx hr (j - q)]
    congr 1
    unfold lowp prevW
    by_cases h0 : j - q = 0
    · rw [if_pos h0, if_neg (by omega)]
    · rw [if_neg h0]
      by_cases hr0 : 0 < r
      · rw [if_pos (by omega), hiW_eq _ (by omega)]
      · obtain rfl : r = 0 := by omega
        rw [if_neg (by omega)]
        unfold hiW
        have := hx (j - q - 1)
        omega
  · rw [if_neg h, if_neg h]
theorem p64 (q r : Nat) : (2 : Int) ^ r * 18446744073709551616 ^ q = 2 ^ (64 * q + r) := by
  rw [Int.pow_add, Int.pow_mul, Int.mul_comm]; rfl
/-- the value of what the document's Left lays -/
theorem finL_val {x : Nat → Int} {n : Nat} (hx : Words x) (zx : ∀ i, n ≤ i → x i = 0) (q : Nat) {r : Nat} (hr : r < 64) : val (finL x q r) (n + q + 1) = val x n * 2 ^ (64 * q + r) := by
  rw [finL_up hx q hr, show n + q + 1 = q + (n + 1) by omega, val_up, sh_end zx r (n + 1) (by omega), Int.mul_assoc, p64]
section
/-- the words of z, from off on k of y's that are shifted by r laid over them -/
def upZ (z y : Nat → Int) (r off k j : Nat) : Int := if off ≤ j ∧ j < off + k then shW y r (j - off) else z j
theorem upZ_next (z y : Nat → Int) (r off k j : Nat) : (if j = off + k then shW y r k else upZ z y r off k j) = upZ z y r off (k + 1) j := by
  unfold upZ
  by_cases e : j = off + k
  · subst e
    rw [if_pos rfl, if_pos (by omega)]; congr 1; omega
  · rw [if_neg e]
    by_cases e2 : off ≤ j ∧ j < off + k
    · rw [if_pos e2, if_pos (by omega)]
    · rw [if_neg e2, if_neg (by omega)]

set_option maxHeartbeats 1000000 in
theorem shiftUp_any (g N off m c k c' r : Nat) (a' : Option Addr) (z y : Nat → Int) (w : World) (hm : off + m ≤ N) (hN : N < 4294967296) (hk : k < m) (hr : r < 64) (h : Own g N z w) (h' : Num w a' k c' y) (hA : Apart a' g) :
    Calls Tryz.prog 172 #[.slice (some ⟨g, off, none⟩) m c, .slice a' k c', .int .i64 r] w fun e w' => e = .returned (.tuple #[]) ∧ Own g N (upZ z y r off (k + 1)) w' ∧ Upd g w w' := by
  have hy := h'.2.2.1
  have hri : (r : Int) < 64 := by omega
  have e64 : ((64 : Int) - r).toNat = 64 - r := by omega
  have hk0 := h'.2.2.2.1 k (Nat.le_refl _)
  go_enter Tryz.func172, Tryz.ntmps172
  go_wp2
  go_loopw [6, 7, 8, 11] (fun cv u7 u8 i wr => ∃ (j : Nat), j ≤ k ∧ i = .int .i64 j ∧ cv = .int .u64 (prevW y r j) ∧ Own g N (upZ z y r off j) wr ∧ Upd g w wr) (fun _ _ _ i _ => k - (intOf i).toNat)
  case atStart => exact ⟨0, Nat.zero_le _, rfl, rfl, h.congr fun i _ => by unfold upZ; rw [if_neg (by omega)], Upd.refl _ _⟩
  case round =>
    obtain ⟨j, hj, rfl, rfl, hO, hU⟩ := hrel
    have hpb := prevW_word hy hr j
    by_cases hlt : j < k
    · have hji : (j : Int) < k := by omega
      have hjm : (j : Int) < m := by omega
      obtain ⟨b, off', rfl, hb, hc⟩ := (hU.num' hA h').cells (by omega)
      have hcj := hc j hlt
      have hco : ∃ u, wr.cell? ⟨g, off + j, none⟩ = some (.int .u64 u) := ⟨_, hO.cell (off + j) (by omega)⟩
      obtain ⟨u, hco⟩ := hco
      have hfo := hO.frozen (off + j)
      have b_y := hy j
      have HP : Hid (prevW y r (j + 1) = y j / 2 ^ (64 - r)) := by show _ = _; rw [hiW_eq _ (by omega)]; rfl
      have HS : Hid (bits BinOp.or IntKind.u64 (IntKind.u64.wrap (y j * 2 ^ r)) (prevW y r j) = shW y r j) := by
        show _ = _
        rw [← shW_or hy hr j]
        exact orW_comm _ _ (wrap_word _) hpb
      have HO : Hid (Own g N (upZ z y r off (j + 1)) (wr.setCell ⟨g, off + j, none⟩ (.int .u64 (shW y r j)))) := (hO.set (off + j) _).congr fun i _ => upZ_next z y r off j i
      have HU : Hid (Upd g w (wr.setCell ⟨g, off + j, none⟩ (.int .u64 (shW y r j)))) := hU.set (off + j) _
      rw [← HS.out] at HO HU
      clear hO hU hc h h' hA hy hk0 HS
      generalize prevW y r j = pv at *
      go_wp2
      go_roundw
      case rel => exact ⟨j + 1, by omega, by go_num, by rw [HP.out], HO.out, HU.out⟩
      case measure => simp [intOf]; omega
    · obtain rfl : j = k := by omega
      have hjm : (j : Int) < m := by omega
      have hco : ∃ u, wr.cell? ⟨g, off + j, none⟩ = some (.int .u64 u) := ⟨_, hO.cell (off + j) (by omega)⟩
      obtain ⟨u, hco⟩ := hco
      have hfo := hO.frozen (off + j)
      have e1 : shW y r j = prevW y r j := by unfold shW; rw [hk0]; simp
      have HO : Hid (Own g N (upZ z y r off (j + 1)) (wr.setCell ⟨g, off + j, none⟩ (.int .u64 (prevW y r j)))) := (hO.set (off + j) _).congr fun i _ => by rw [← e1]; exact upZ_next z y r off j i
      have HU : Hid (Upd g w (wr.setCell ⟨g, off + j, none⟩ (.int .u64 (prevW y r j)))) := hU.set (off + j) _
      clear hO hU h h' hA hy hk0 e1
      generalize prevW y r j = pv at *
      go_wp2
      go_end0
      exact ⟨rfl, HO.out, HU.out⟩

theorem bare_own {g N c : Nat} {z : Nat → Int} {w : World} {V : Int} (hO : Own g N z w) (hW : Words z) (hN : N < 4000000000) (hc : N ≤ c) (hc2 : c ≤ maxLen) (hv : val z N = V) :
    ∃ k z', k ≤ N ∧ Num w (some ⟨g, 0, none⟩) k c z' ∧ val z' k = V ∧ sizeL z' k = k ∧ Calls Tryz.prog 28 #[.slice (some ⟨g, 0, none⟩) N c] w fun e w' => e = .returned (.slice (some ⟨g, 0, none⟩) k c) ∧ w = w' := by
  have h := hO.num hW 0 N c (by omega) hc hc2
  refine ⟨sizeL (segW z 0 N) N, segW z 0 N, sizeL_le _ _, h.bare, ?_, sizeL_sizeL _ _, bare_any _ N c _ w (by omega) h⟩
  rw [val_bare, val_congr (x := segW z 0 N) (y := z) N fun i hi => by rw [segW_lt _ 0 N i hi, Nat.zero_add], hv]
end
section
attribute [local go_sem] setCell_drewN alloc_drewN

theorem and_mask {y : Int} {r : Nat} (hy : 0 ≤ y ∧ y ≤ 18446744073709551615) (hr : r < 64) : bits BinOp.and IntKind.u64 y (2 ^ r - 1) = y % 2 ^ r := by
  have h1 := p2_pos r
  have h2 := p2_le hr
  rw [u64_and _ _ hy.1 (by omega) (by omega) (by omega)]
  obtain ⟨n, rfl⟩ := Int.eq_ofNat_of_zero_le hy.1
  have e : ((2 : Int) ^ r - 1).toNat = 2 ^ r - 1 := by rw [← powCast]; omega
  rw [e, Int.toNat_natCast, Nat.and_two_pow_sub_one_eq_mod, Int.natCast_emod, powCast]
end
section
theorem sizeL_more {x : Nat → Int} {n : Nat} (hz : ∀ i, n ≤ i → x i = 0) : ∀ m, n ≤ m → sizeL x m = sizeL x n
  | 0, h => by have : n = 0 := by omega
               subst this; rfl
  | m + 1, h => by
    by_cases e : n = m + 1
    · subst e; rfl
    · rw [show sizeL x (m + 1) = sizeL x m by simp [sizeL, hz m (by omega)]]
      exact sizeL_more hz m (by omega)

/-- what a word sends down into the one below it -/
def dnW (y : Int) (r : Nat) : Int := IntKind.u64.wrap (y * 2 ^ (64 - r))
theorem shr_or {y : Nat → Int} (hy : Words y) {r : Nat} (hr : r < 64) (q i : Nat) : orW (y (q + i) / 2 ^ r) (dnW (y (q + i + 1)) r) = shrW y q r i := by
  unfold shrW dnW
  by_cases h : r = 0
  · subst h
    rw [if_pos rfl, wrap_mod]
    have e : y (q + i + 1) * 2 ^ (64 - 0) % 18446744073709551616 = 0 := Int.mul_emod_left _ _
    rw [e, Int.pow_zero, Int.ediv_one, orW_zero _ (hy _)]
  · rw [if_neg h]
/-- the words of z, those from k on (and below m) y's, shifted down by r -/
def dnZ (z y : Nat → Int) (r m k j : Nat) : Int := if k ≤ j ∧ j < m then shrW y 0 r j else z j

set_option maxHeartbeats 1000000 in
theorem shiftDown_any (g N m c c' r : Nat) (a' : Option Addr) (z y : Nat → Int) (w : World) (hm : m ≤ N) (hN : N < 4294967296) (hr : r < 64) (h : Own g N z w) (h' : Num w a' m c' y) (hA : Apart a' g) :
    Calls Tryz.prog 174 #[.slice (some ⟨g, 0, none⟩) m c, .slice a' m c', .int .i64 r] w fun e w' => e = .returned (.tuple #[]) ∧ Own g N (dnZ z y r m 0) w' ∧ Upd g w w' := by
  have hy := h'.2.2.1
  have hri : (r : Int) < 64 := by omega
  have e64 : ((64 : Int) - r).toNat = 64 - r := by omega
  have hk0 := h'.2.2.2.1 m (Nat.le_refl _)
  go_enter Tryz.func174, Tryz.ntmps174
  go_wp2
  go_loopw [6, 7] (fun cv i wr => ∃ (k : Nat), k ≤ m ∧ i = .int .i64 ((k : Int) - 1) ∧ cv = .int .u64 (dnW (y k) r) ∧ Own g N (dnZ z y r m k) wr ∧ Upd g w wr) (fun _ i _ => (intOf i + 1).toNat)
  case atStart => exact ⟨m, Nat.le_refl _, by go_num, by rw [hk0]; unfold dnW; rw [Int.zero_mul, wrap_id 0 (by decide)], h.congr fun i _ => by unfold dnZ; rw [if_neg (by omega)], Upd.refl _ _⟩
  case round =>
    obtain ⟨k, hk, rfl, rfl, hO, hU⟩ := hrel
    have hpb : 0 ≤ dnW (y k) r ∧ dnW (y k) r ≤ 18446744073709551615 := wrap_word _
    by_cases h0 : k = 0
    · subst h0
      have HO : Hid (Own g N (dnZ z y r m 0) wr) := hO
      have HU : Hid (Upd g w wr) := hU
      clear hO hU h h' hA hy hk0
      go_wp2
      go_end0
      exact ⟨rfl, HO.out, HU.out⟩
    · obtain ⟨j, rfl⟩ : ∃ j, k = j + 1 := ⟨k - 1, by omega⟩
      have ej : ((j + 1 : Nat) : Int) - 1 = j := by omega
      rw [ej]
      have hjm : (j : Int) < m := by omega
      obtain ⟨b, off', rfl, hb, hc⟩ := (hU.num' hA h').cells (by omega)
      have hcj := hc j (by omega)
      have hco : ∃ u, wr.cell? ⟨g, j, none⟩ = some (.int .u64 u) := ⟨_, hO.cell j (by omega)⟩
      obtain ⟨u, hco⟩ := hco
      have hfo := hO.frozen j
      have b_y := hy j
      have hbg : b ≠ g := hA _ rfl
      have hcj2 : ∀ v, (wr.setCell ⟨g, j, none⟩ v).cell? ⟨b, off' + j, none⟩ = some (.int .u64 (y j)) := fun v => (World.cell?_of_block (w := wr) (a := ⟨b, off' + j, none⟩) (Below.heap_setCell wr ⟨g, j, none⟩ v b hbg)).trans hcj
      have HS : Hid (bits BinOp.or IntKind.u64 (y j / 2 ^ r) (dnW (y (j + 1)) r) = shrW y 0 r j) := by
        show _ = _
        have := shr_or hy hr 0 j
        rw [Nat.zero_add] at this
        exact this
      have HO : Hid (Own g N (dnZ z y r m j) (wr.setCell ⟨g, j, none⟩ (.int .u64 (shrW y 0 r j)))) := (hO.set j _).congr fun i _ => by
        unfold dnZ
        by_cases e : i = j
        · subst e; rw [if_pos rfl, if_pos (by omega)]
        · rw [if_neg e]
          by_cases e2 : j + 1 ≤ i ∧ i < m
          · rw [if_pos e2, if_pos (by omega)]
          · rw [if_neg e2, if_neg (by omega)]
      have HU : Hid (Upd g w (wr.setCell ⟨g, j, none⟩ (.int .u64 (shrW y 0 r j)))) := hU.set j _
      rw [← HS.out] at HO HU
      have HDW : Hid (IntKind.u64.wrap (y j * 2 ^ (64 - r)) = dnW (y j) r) := rfl
      clear hO hU hc h h' hA hy hk0 HS ej
      generalize dnW (y (j + 1)) r = pv at *
      go_wp2
      go_roundw
      case rel => exact ⟨j, by omega, by go_num, by rw [← HDW.out], HO.out, HU.out⟩
      case measure => simp [intOf]

theorem Num.drop {w : World} {b off n c q : Nat} {x : Nat → Int} (h : Num w (some ⟨b, off, none⟩) n c x) (hq : q ≤ n) : Num w (some ⟨b, off + q, none⟩) (n - q) (c - q) (fun i => x (q + i)) := by
  obtain ⟨h1, h2, h3, h4, h5⟩ := h
  refine ⟨by omega, by omega, fun i => h3 (q + i), fun i hi => h4 (q + i) (by omega), ?_⟩
  rcases h5 with ⟨h5, _⟩ | ⟨b', off', h6, h7, h8⟩
  · cases h5
  · cases h6
    exact Or.inr ⟨b, off + q, rfl, h7, fun i hi => by have := h8 (q + i) (by omega); rw [Nat.add_assoc]; exact this⟩
theorem Num.take {w : World} {b off n c q : Nat} {x : Nat → Int} (h : Num w (some ⟨b, off, none⟩) n c x) (hq : q ≤ n) : Num w (some ⟨b, off, none⟩) q c (segW x 0 q) := by
  obtain ⟨h1, h2, h3, h4, h5⟩ := h
  refine ⟨by omega, by omega, segW_words h3 0 q, fun i hi => segW_zero x 0 q i hi, ?_⟩
  rcases h5 with ⟨h5, _⟩ | ⟨b', off', h6, h7, h8⟩
  · cases h5
  · cases h6
    exact Or.inr ⟨b, off, rfl, h7, fun i hi => by rw [h8 i (by omega), segW_lt x 0 q i hi, Nat.zero_add]⟩
end
theorem val_one1 (c : Int) : val (oneW c) 1 = c := by simp [val, oneW]
section
/-- byte i of a text -/
def sb (s : ByteArray) (i : Nat) : Int := if h : i < s.size then ((s[i]'h).toNat : Int) else 0
theorem sb_lt {s : ByteArray} {i : Nat} (h : i < s.size) : ((s[i]'h).toNat : Int) = sb s i := by unfold sb; rw [dif_pos h]
theorem sb_bd (s : ByteArray) (i : Nat) : 0 ≤ sb s i ∧ sb s i ≤ 255 := by
  unfold sb; split
  · rename_i h; have := (s[i]'h).toNat_lt; omega
  · omega
/-- are the first k bytes digits? -/
def digB (s : ByteArray) : Nat → Bool
  | 0 => true
  | k + 1 => digB s k && decide (48 ≤ sb s k ∧ sb s k ≤ 57)
def isDigB (s : ByteArray) : Bool := digB s s.size && decide (0 < s.size)
theorem digB_false {s : ByteArray} : ∀ (n : Nat) {k : Nat}, k < n → ¬ (48 ≤ sb s k ∧ sb s k ≤ 57) → digB s n = false
  | 0, k, h, _ => by omega
  | n + 1, k, h, hb => by
    unfold digB
    by_cases e : k = n
    · subst e; simp [hb]
    · rw [digB_false n (by omega) hb]; rfl

set_option maxHeartbeats 1000000 in
theorem allDigits_any (s : ByteArray) (w : World) (hs : s.size < 4294967296) :
    Calls Tryz.prog 127 #[.string s] w fun e w' => e = .returned (.bool (isDigB s)) ∧ w = w' := by
  go_enter Tryz.func127, Tryz.ntmps127
  go_wp2
  go_loop [3, 6] (fun u3 i => ∃ k : Nat, k ≤ s.size ∧ i = .int .i64 k ∧ digB s k = true) (fun _ i => s.size - (intOf i).toNat)
  case atStart => exact ⟨0, Nat.zero_le _, rfl, rfl⟩
  case round =>
    obtain ⟨k, hk, rfl, hd⟩ := hrel
    by_cases hlt : k < s.size
    · have hki : (k : Int) < s.size := by omega
      have hsb := sb_lt hlt
      have hbd := sb_bd s k
      by_cases h1 : sb s k < 48
      · have HF : Hid (isDigB s = false) := by show _ = _; unfold isDigB; rw [digB_false s.size hlt (by omega)]; rfl
        go_wp2
        go_ret
        exact ⟨by rw [HF.out]; rfl, rfl⟩
      · by_cases h2 : 57 < sb s k
        · have HF : Hid (isDigB s = false) := by show _ = _; unfold isDigB; rw [digB_false s.size hlt (by omega)]; rfl
          go_wp2
          go_ret
          exact ⟨by rw [HF.out]; rfl, rfl⟩
        · have HD : Hid (digB s (k + 1) = true) := by show _ = _; unfold digB; rw [hd]; simp; omega
          clear hd
          go_wp2
          go_round
          case rel => exact ⟨k + 1, by omega, by go_num, HD.out⟩
          case measure => simp [intOf]; omega
    · obtain rfl : k = s.size := by omega
      have HF : Hid (isDigB s = decide (0 < s.size)) := by show _ = _; unfold isDigB; rw [hd]; simp
      clear hd
      go_wp2
      go_ret
      exact ⟨by rw [HF.out]; rfl, rfl⟩
end
section
/-- the number that the first k bytes write -/
def numV (s : ByteArray) : Nat → Int
  | 0 => 0
  | k + 1 => numV s k * 10 + (sb s k - 48)
theorem digB_at {s : ByteArray} : ∀ (n : Nat), digB s n = true → ∀ k, k < n → 48 ≤ sb s k ∧ sb s k ≤ 57
  | 0, _, k, h => by omega
  | n + 1, hd, k, h => by
    unfold digB at hd
    simp at hd
    by_cases e : k = n
    · subst e; exact hd.2
    · exact digB_at n hd.1 k (by omega)
theorem numV_bd {s : ByteArray} : ∀ (n : Nat), digB s n = true → 0 ≤ numV s n ∧ numV s n < 10 ^ n
  | 0, _ => by simp [numV]
  | n + 1, hd => by
    have h1 := digB_at (n + 1) hd n (by omega)
    have h2 := numV_bd n (by unfold digB at hd; simp at hd; exact hd.1)
    simp only [numV]
    rw [Int.pow_succ]
    omega
theorem p10_le {a b : Nat} (h : a ≤ b) : (10 : Int) ^ a ≤ 10 ^ b := by
  have : (10 : Nat) ^ a ≤ 10 ^ b := Nat.pow_le_pow_right (by decide) h
  exact_mod_cast this
theorem wl_set (z : Nat → Int) (n j : Nat) (l : Int) : (wl z n).set j (.int .u64 l) = wl (fun i => if i = j then l else z i) n := by
  apply List.ext_getElem?
  intro i
  unfold wl
  rw [List.getElem?_set]
  by_cases hi : i < n
  · by_cases e : j = i
    · subst e; simp [hi]
    · simp [hi, e, Ne.symm e]
  · by_cases e : j = i
    · subst e; simp [hi]
    · simp [hi, e]
theorem wl_congr {x y : Nat → Int} (n : Nat) (h : ∀ i, i < n → x i = y i) : wl x n = wl y n := by
  unfold wl
  exact List.map_congr_left fun i hi => by rw [h i (by simpa using hi)]
theorem owns_form {w : World} {base n c : Nat} {ao : Option Addr} {xs : List Value} (h : w.ownsRow base 22 1 (.slice ao n c) n xs) : ∀ q, (Value.slice ao n c).ownBlock = some q → base ≤ q := fun q hq => (h.lt q hq).1
theorem owns_some {w : World} {base n c : Nat} {ao : Option Addr} {xs : List Value} (h : w.ownsRow base 22 1 (.slice ao n c) n xs) (hn : 0 < n) : ∃ g, ao = some ⟨g, 0, none⟩ ∧ base ≤ g := by
  obtain ⟨g, cap, e, hb, _⟩ := h.form hn
  cases e
  exact ⟨g, rfl, hb⟩
theorem wl_at (z : Nat → Int) (n j : Nat) (h : j < n) : (wl z n)[j]? = some (.int .u64 (z j)) := by unfold wl; simp [h]

/-- a number in a row of one's own -/
def Row (base : Nat) (ao : Option Addr) (n c : Nat) (x : Nat → Int) (w : World) : Prop :=
  w.ownsRow base 22 1 (.slice ao n c) n (wl x n) ∧ Words x ∧ (∀ i, n ≤ i → x i = 0) ∧ sizeL x n = n ∧ base ≤ w.heap.size

theorem apn_trim {x z : Nat → Int} {n : Nat} {S b : Int} (hx : Words x) (hz : Words z) (ht : sizeL x n = n) (hS : 1 ≤ S) (hb : 0 ≤ b) (hv : val z n = val x n * S + b) : sizeL z n = n := by
  cases n with
  | zero => rfl
  | succ m =>
    by_cases e : z m = 0
    · exfalso
      have h1 : val z m < val x (m + 1) := val_longer (x := z) hz hx (Nat.lt_succ_self m) ht
      have h2 : val z (m + 1) = val z m := by simp [val, e]
      have h3 := (val_bd hx (m + 1)).1
      have h4 : val x (m + 1) * 1 ≤ val x (m + 1) * S := Int.mul_le_mul_of_nonneg_left hS h3
      omega
    · simp [sizeL, e]

set_option maxRecDepth 20000 in
set_option maxHeartbeats 2000000 in
theorem appendPart_any (base : Nat) (a : Option Addr) (n c : Nat) (x : Nat → Int) (s : ByteArray) (w : World) (hn : n < 100000) (hs : s.size ≤ 19) (hd : digB s s.size = true) (h : Row base a n c x w) :
    Calls Tryz.prog 128 #[.slice a n c, .string s] w fun e w' => ∃ ao k cap z, e = .returned (.slice ao k cap) ∧ k ≤ n + 1 ∧ Row base ao k cap z w' ∧ val z k = val x n * 10 ^ s.size + numV s s.size ∧ Below base w w' := by
  obtain ⟨hown, hx, hx0, hxt, hbase⟩ := h
  have hdig := digB_at s.size hd
  have hnv := numV_bd s.size hd
  have hS19 : (10 : Int) ^ s.size ≤ 10 ^ 19 := p10_le hs
  have HX : Hid (Words x) := hx
  have HX0 : Hid (∀ i, n ≤ i → x i = 0) := hx0
  have HXT : Hid (sizeL x n = n) := hxt
  have HNV : Hid (0 ≤ numV s s.size ∧ numV s s.size < 10 ^ s.size) := hnv
  have HS19 : Hid ((10 : Int) ^ s.size ≤ 10 ^ 19) := hS19
  have HOWN : Hid (w.ownsRow base 22 1 (.slice a n c) n (wl x n)) := hown
  have HD : Hid (digB s s.size = true) := hd
  clear hx hx0 hxt hnv hS19 hown hd
  go_enter Tryz.func128, Tryz.ntmps128
  go_wp2
  go_loop [5, 6, 7, 12] (fun sc be u7 i => ∃ (k : Nat) (S b : Int), k ≤ s.size ∧ i = .int .i64 k ∧ sc = .int .u64 S ∧ be = .int .u64 b ∧ Hid (S = 10 ^ k ∧ b = numV s k) ∧ 0 ≤ b ∧ b < S ∧ S ≤ 10000000000000000000) (fun _ _ _ i => s.size - (intOf i).toNat)
  case atStart => exact ⟨0, 1, 0, Nat.zero_le _, rfl, rfl, rfl, ⟨by simp, rfl⟩, by decide, by decide, by decide⟩
  case round =>
    obtain ⟨k, S, b, hk, rfl, rfl, rfl, hSb, hb0, hbS, hS⟩ := hrel
    by_cases hlt : k < s.size
    · have hki : (k : Int) < s.size := by omega
      have hsb := sb_lt hlt
      have hbd := hdig k hlt
      have hS2 : S ≤ 1000000000000000000 := by
        have := p10_le (show k ≤ 18 by omega)
        rw [← hSb.out.1] at this
        exact this
      have HSB : Hid (S * 10 = 10 ^ (k + 1) ∧ b * 10 + (sb s k - 48) = numV s (k + 1)) := by
        show _ ∧ _
        obtain ⟨e1, e2⟩ := hSb.out
        exact ⟨by rw [e1, Int.pow_succ], by rw [e2]; rfl⟩
      clear hdig hSb
      go_wp2
      go_round
      case rel => exact ⟨k + 1, S * 10, b * 10 + (sb s k - 48), by omega, by go_num, by go_num, by go_num, HSB.out, by omega, by omega, by omega⟩
      case measure => simp [intOf]; omega
    · obtain rfl : k = s.size := by omega
      clear hdig hlt
      clear HNV HS19 HD
      go_wp2
      go_loopw [6, 8, 9, 28, 33] (fun be u8 u9 i u33 wr => ∃ (j : Nat) (C : Int) (z : Nat → Int), j ≤ n ∧ i = .int .i64 j ∧ be = .int .u64 C ∧ (0 ≤ C ∧ C ≤ 18446744073709551615) ∧ wr.ownsRow base 22 1 (.slice a n c) n (wl z n) ∧ Words z ∧ Hid (val z n + C * 18446744073709551616 ^ j = val x j * S + b + (val x n - val x j)) ∧ (∀ i, j ≤ i → z i = x i) ∧ Below base w wr) (fun _ _ _ i _ _ => n - (intOf i).toNat)
      case atStart => exact ⟨0, b, x, Nat.zero_le _, rfl, rfl, by omega, HOWN.out, HX.out, by show _ = _; simp [val]; omega, fun _ _ => rfl, Below.refl _ _⟩
      case round =>
        obtain ⟨j, C, z, hj, rfl, rfl, hCb, hO, hzw, hv, hzx, hU⟩ := hrel
        by_cases hlt : j < n
        · have hji : (j : Int) < n := by omega
          obtain ⟨g, rfl, hbg⟩ := owns_some hO (by omega)
          have hcj := (hO.cellAt j (by omega)).trans (wl_at z n j hlt)
          have hfj := hO.frozenAt j
          have hst := fun l => (hO.stored j (.int .u64 l))
          have hma := fun w => mulAdd_any (z j) S 0 C w (hzw j) (by omega) (by decide) hCb
          have HST : Hid (∀ l, (wr.setCell ⟨g, j, none⟩ (.int .u64 l)).ownsRow base 22 1 (.slice (some ⟨g, 0, none⟩) n c) n ((wl z n).set j (.int .u64 l)) ∧ wr.grownBy (wr.setCell ⟨g, j, none⟩ (.int .u64 l)) (some g)) := hst
          have HU : Hid (Below base w wr) := hU
          have HZW : Hid (Words z) := hzw
          have HZX : Hid (∀ i, j ≤ i → z i = x i) := hzx
          clear hO hU hzw hzx hst
          go_wp2_with (go_at_call 151; refine (hma _).mono ?_; rintro e w1 ⟨l, hi, rfl, hlh, hlb, hhb, rfl⟩)
          go_roundw
          case rel =>
            refine ⟨j + 1, hi, fun i => if i = j then l else z i, by omega, by go_num, rfl, hhb, ?_, upd_words HZW.out hlb, ?_, ?_, HU.out.grown (HST.out l).2 (Nat.le_trans hbase HU.out.size) (fun q hq => by cases hq; exact hbg)⟩
            · rw [← wl_set]; exact (HST.out l).1
            · show _ = _
              rw [val_set z j l n (by omega)]
              have e1 := hv.out
              have e3 := HZX.out j (Nat.le_refl _)
              rw [e3] at hlh ⊢
              simp only [val]
              rw [Int.pow_succ]
              generalize (18446744073709551616 : Int) ^ j = P at *
              have e2 : l * P + hi * (P * 18446744073709551616) = (x j * S + 0 + C) * P := by rw [← hlh]; grind
              grind
            · intro i hi2
              exact (if_neg (show ¬ i = j by omega)).trans (HZX.out i (by omega))
          case measure => simp [intOf]; omega
        · obtain rfl : j = n := by omega
          have hv' : val z j + C * 18446744073709551616 ^ j = val x j * S + b := by have := hv.out; omega
          have hz0 : ∀ i, j ≤ i → z i = 0 := fun i hi => (hzx i hi).trans (HX0.out i hi)
          by_cases hC : C = 0
          · subst hC
            have hv2 : val z j = val x j * S + b := by rw [← hv']; simp
            have HR : Hid (Row base a j c z wr) := ⟨hO, hzw, hz0, apn_trim HX.out hzw HXT.out (by omega) hb0 hv2, Nat.le_trans hbase hU.size⟩
            have HV : Hid (val z j = val x j * S + b) := hv2
            have HU : Hid (Below base w wr) := hU
            clear hO hU hzw hzx hz0 hv hv' hv2
            go_wp2
            go_ret
            exact ⟨a, j, c, z, rfl, by omega, HR.out, by rw [HV.out, hSb.out.1, ← hSb.out.2], HU.out⟩
          · have hC0 : 0 < C := by omega
            obtain ⟨i0, hi, hz00, hz1, hz2⟩ := info_parts Tryz.info22
            have HOWN2 : (wr.alloc (.cells #[.int .u64 C] 22)).ownsRow base 22 1 (.slice a j c) j (wl z j) := hO.alloc _
            have HNEWS : ∀ (q : Nat) (u : Value), [Value.int .u64 C][q]? = some u → (wr.alloc (.cells #[.int .u64 C] 22)).cell? ((⟨wr.heap.size, 0, none⟩ : Addr).add q) = some u := by
              intro q u hq
              match q, hq with
              | 0, hq => simp at hq; subst hq; simp [Addr.add]
            have HONE : ∀ u ∈ [Value.int .u64 C], u.oneCell' = true := by
              intro u hu; simp at hu; subst hu; rfl
            have hbs := Nat.le_trans hbase hU.size
            have HOF : Hid (∀ q, (Value.slice a j c).ownBlock = some q → base ≤ q) := owns_form hO
            have HU : Hid (Below base w wr) := hU
            have HZW : Hid (Words z) := hzw
            have HZ0 : Hid (∀ i, j ≤ i → z i = 0) := hz0
            have HV : Hid (val z j + C * 18446744073709551616 ^ j = val x j * S + b) := hv'
            clear hO hU hzw hzx hz0 hv hv'
            go_wp2_with (first | (at_builtin; refine wpList_append_lies _ rfl (.tmp 46) (.tmp 48) 45 rfl base 22 i0 (.int .u64 0) 1 8 Tryz.underlying45 hi hz00 hz1 hz2 rfl (by decide) (.slice a j c) j (wl z j) rfl HOWN2 ⟨wr.heap.size, 0, none⟩ 1 1 [Value.int .u64 C] rfl rfl HNEWS HONE (by omega) (by unfold maxLen; omega) (by omega) (by simp; omega) (wr.heap.size + 1) (by simp) ?_; intro g cap w1 hown1 hgrow hat hlt1; clear HOWN2 HNEWS HONE))
            have HB1 : Below base wr w1 := ((Below.refl _ wr).alloc hbs _).grown hgrow (by simp; omega) HOF.out
            have e1 : wl z j ++ [Value.int .u64 C] = wl (fun i => if i = j then C else z i) (j + 1) := by
              rw [← wl_succ, if_pos rfl, wl_congr (y := fun i => if i = j then C else z i) j fun i hi => (if_neg (show ¬ i = j by omega)).symm]
            rw [e1] at hown1
            have HR : Hid (Row base (some ⟨g, 0, none⟩) (j + 1) cap (fun i => if i = j then C else z i) w1) := by
              refine ⟨hown1, upd_words HZW.out hCb, fun i hi => (if_neg (show ¬ i = j by omega)).trans (HZ0.out i (by omega)), ?_, Nat.le_trans hbs HB1.size⟩
              simp [sizeL]; omega
            have HV2 : Hid (val (fun i => if i = j then C else z i) (j + 1) = val x j * S + b) := by
              show _ = _
              rw [← HV.out]
              simp only [val, if_pos]
              rw [val_congr (y := z) j fun i hi => if_neg (show ¬ i = j by omega)]
            have HB2 : Hid (Below base w w1) := HU.out.trans HB1
            clear hown1 hgrow HB1 e1
            go_wp2
            go_ret
            exact ⟨_, j + 1, cap, _, rfl, by omega, HR.out, by rw [HV2.out, hSb.out.1, ← hSb.out.2], HB2.out⟩
end
section
set_option maxHeartbeats 2000000 in
theorem nsubF (a a' : Option Addr) (n c n' c' : Nat) (x y : Nat → Int) (w : World) (hn : n < 4000000000) (hn' : n' < 4000000000) (h : Num w a n c x) (h' : Num w a' n' c' y) (hv : val y n' ≤ val x n) :
    Calls Tryz.prog 150 #[.slice a n c, .slice a' n' c'] w fun e w' => ∃ g k cap z, e = .returned (.tuple #[.slice (some ⟨g, 0, none⟩) k cap, .int .i64 0]) ∧ k ≤ sizeL x n ∧ Num w' (some ⟨g, 0, none⟩) k cap z ∧ val z k = val x n - val y n' ∧ sizeL z k = k ∧ Below w.heap.size w w' ∧ w.heap.size ≤ g ∧ ∀ i, w'.frozen? ⟨g, i, none⟩ = false := by
  have hc := ncmp_any a a' n c n' c' x y w (by omega) (by omega) h h'
  have hsg : 0 ≤ sgn (val x n) (val y n') := by unfold sgn; rw [if_neg (by omega)]; split <;> omega
  have hsb := sgn_bd (val x n) (val y n')
  generalize sgn (val x n) (val y n') = sg at *
  have ht := fun wr hN => ntrim_any a n c x wr (by omega) hN
  have hb' := fun wr hN => bare_any a' n' c' y wr (by omega) hN
  have hx := h.2.2.1
  have hy := h'.2.2.1
  have hle := sizeL_le x n
  have hle' := sizeL_le y n'
  have hvx := val_bare (x := x) n
  have hvy := val_bare (x := y) n'
  have hss : sizeL y n' ≤ sizeL x n := by
    rcases Nat.lt_or_ge (sizeL x n) (sizeL y n') with h1 | h1
    · have := val_longer hx hy h1 (sizeL_sizeL y n'); omega
    · exact h1
  have zx := h.bare.2.2.2.1
  have zy := h'.bare.2.2.2.1
  have HNb : Hid (Num w a' (sizeL y n') c' y) := h'.bare
  rw [← hvx, ← hvy] at hv ⊢
  generalize sizeL x n = s at *
  generalize sizeL y n' = s' at *
  have hend : borW x y s = 0 := borW_end hx hy (by rw [val_more zy s hss]; exact hv)
  have HV : Hid (val (difW x y) s = val x s - val y s') := by
    show _ = _
    have e := dif_val hx hy s
    rw [hend, val_more zy s hss] at e
    omega
  have HN : Hid (Num w a n c x) := h
  have HN' : Hid (Num w a' n' c' y) := h'
  clear h h' hv hvx hvy zx
  go_enter Tryz.func150, Tryz.ntmps150
  go_wp2_with (go_at_call 122; refine hc.mono ?_; rintro e wC ⟨rfl, m, hwC⟩)
  have hBC : Below w.heap.size w wC := by rw [← hwC]; exact below_drewN (Below.refl _ _) m
  have hg : wC.heap.size = w.heap.size := by rw [← hwC]; rfl
  have h1 := ht wC (HN.out.next hBC)
  rw [hg] at h1
  go_wp2_with (go_at_call 29; refine h1.mono ?_; rintro e w1 ⟨rfl, hw1⟩)
  have hB1 : Below w.heap.size wC w1 := by rw [← hw1]; have := below1 wC (.cells (arrOf x s) 22); rw [hg] at this; exact this
  have hO1 : Own w.heap.size s x w1 := by rw [← hw1]; have := Own.new wC x s; rw [hg] at this; exact this
  have hBw1 := hBC.trans hB1
  have h2 := hb' w1 (HN'.out.next hBw1)
  clear hw1 h1 ht hb' hc hB1 hBC hwC hg
  go_wp2_with (go_at_call 28; refine h2.mono ?_; rintro e w2 ⟨rfl, rfl⟩)
  have hNb := HNb.out.next hBw1
  have hA : Apart a' w.heap.size := by
    intro p hp
    rcases HNb.out.2.2.2.2 with ⟨h, _⟩ | ⟨b, off, h, hb, _⟩
    · rw [h] at hp; cases hp
    · rw [h] at hp; cases hp; exact Nat.ne_of_lt hb
  clear h2 HNb HN HN'
  go_loopw [8, 9, 10, 22, 27] (fun bv u9 u10 i u27 wr => ∃ (j : Nat), j ≤ s' ∧ i = .int .i64 j ∧ bv = .int .u64 (borW x y j) ∧ Own w.heap.size s (subZ x y j) wr ∧ Upd w.heap.size w1 wr) (fun _ _ _ i _ _ => s' - (intOf i).toNat)
  case atStart => exact ⟨0, Nat.zero_le _, rfl, rfl, hO1.congr fun i _ => by unfold subZ; rw [if_neg (by omega)], Upd.refl _ _⟩
  case round =>
    clear hO1
    obtain ⟨j, hj, rfl, rfl, hO, hU⟩ := hrel
    have hbo := borW_01 x y j
    by_cases hlt : j < s'
    · have hji : (j : Int) < s' := by omega
      have hjm : (j : Int) < s := by omega
      obtain ⟨b, off', rfl, hb, hc⟩ := (hU.num' hA hNb).cells (by omega)
      have hcj := hc j hlt
      have hco := hO.cell j (by omega)
      rw [subZ_at] at hco
      have hfo := hO.frozen j
      have bx := hx j
      have b_y := hy j
      have hadd := fun w => sub64 (x j) (y j) (borW x y j) bx.1 b_y.1 (by omega) hbo.1 hbo.2 w
      have HO : Hid (Own w.heap.size s (subZ x y (j + 1)) (wr.setCell ⟨w.heap.size, j, none⟩ (.int .u64 (difW x y j)))) := (hO.set j _).congr fun i _ => subZ_next x y j i
      have HU : Hid (Upd w.heap.size w1 (wr.setCell ⟨w.heap.size, j, none⟩ (.int .u64 (difW x y j)))) := hU.set j _
      clear hO hU hc hNb hA hx hy zy hend
      go_wp2
      go_roundw
      case rel => exact ⟨j + 1, by omega, by go_num, rfl, HO.out, HU.out⟩
      case measure => simp [intOf]; omega
    · obtain rfl : j = s' := by omega
      have HO : Hid (Own w.heap.size s (subZ x y j) wr) := hO
      have HU : Hid (Upd w.heap.size w1 wr) := hU
      clear hO hU hNb hA
      go_wp2
      go_loopw [8, 11, 47] (fun bv i u47 wr => ∃ (q : Nat), j + q ≤ s ∧ i = .int .i64 ((j : Int) + q) ∧ bv = .int .u64 (borW x y (j + q)) ∧ Own w.heap.size s (subZ x y (j + q)) wr ∧ Upd w.heap.size w1 wr) (fun _ i _ _ => s - (intOf i).toNat)
      case atStart => exact ⟨0, by omega, by go_num, rfl, HO.out, HU.out⟩
      case round =>
        clear HO HU
        obtain ⟨q, hq, rfl, rfl, hO, hU⟩ := hrel
        have hbo := borW_01 x y (j + q)
        by_cases hb0 : borW x y (j + q) = 0
        · have hO2 : Own w.heap.size s (difW x y) wr := hO.congr fun i hi => by
            unfold subZ
            by_cases e : i < j + q
            · rw [if_pos e]
            · rw [if_neg e]; exact ((borW_stop hx zy (by omega) hb0 i (by omega)).2).symm
          have hN2 := hO2.num (difW_words x y) 0 s s (by omega) (Nat.le_refl _) (by unfold maxLen; omega)
          have hbr := bare_any (some ⟨w.heap.size, 0, none⟩) s s (segW (difW x y) 0 s) wr (by omega) hN2
          have HN2 : Hid (Num wr (some ⟨w.heap.size, 0, none⟩) (sizeL (segW (difW x y) 0 s) s) s (segW (difW x y) 0 s)) := hN2.bare
          have HV2 : Hid (val (segW (difW x y) 0 s) (sizeL (segW (difW x y) 0 s) s) = val x s - val y j) := by
            show _ = _
            rw [val_bare, val_congr (x := segW (difW x y) 0 s) (y := difW x y) s fun i hi => by rw [segW_lt _ 0 s i hi, Nat.zero_add], HV.out]
          have HS2 : Hid (sizeL (segW (difW x y) 0 s) (sizeL (segW (difW x y) 0 s) s) = sizeL (segW (difW x y) 0 s) s) := sizeL_sizeL _ _
          have HLE : Hid (sizeL (segW (difW x y) 0 s) s ≤ s) := sizeL_le _ _
          generalize segW (difW x y) 0 s = z at *
          generalize sizeL z s = k at *
          have HF2 : Hid (∀ i, wr.frozen? ⟨w.heap.size, i, none⟩ = false) := fun i => hO.frozen i
          have HB2 : Hid (Below w.heap.size w wr) := hBw1.trans (hU.below (Nat.le_refl _))
          rw [hb0]
          clear hO hO2 hU hN2 hx hy zy hend HV
          go_wp2_with (go_at_call 28; refine hbr.mono ?_; rintro e w3 ⟨rfl, rfl⟩)
          go_ret2
          exact ⟨_, k, s, z, rfl, HLE.out, HN2.out, HV2.out, HS2.out, HB2.out, Nat.le_refl _, HF2.out⟩
        · have hlt2 : j + q < s := by
            rcases Nat.lt_or_ge (j + q) s with h' | h'
            · exact h'
            · obtain e : j + q = s := by omega
              rw [e] at hb0; exact absurd hend hb0
          have hpos : 0 < borW x y (j + q) := by omega
          have hji : (j : Int) + q < s := by omega
          have e1 : ((j : Int) + q).toNat = j + q := by omega
          have hco := hO.cell (j + q) hlt2
          rw [subZ_at] at hco
          have hfo := hO.frozen (j + q)
          have bx := hx (j + q)
          have hs : difW x y (j + q) = (x (j + q) - borW x y (j + q)) % 18446744073709551616 := by unfold difW; rw [zy _ (by omega), Int.sub_zero]
          have HC : Hid (borW x y (j + (q + 1)) = bor (x (j + q)) 0 (borW x y (j + q))) := by
            show bor (x (j + q)) (y (j + q)) (borW x y (j + q)) = _
            rw [zy _ (by omega)]
          have hadd := fun w => sub64 (x (j + q)) 0 (borW x y (j + q)) bx.1 (by decide) (by decide) hbo.1 hbo.2 w
          have HO : Hid (Own w.heap.size s (subZ x y (j + (q + 1))) (wr.setCell ⟨w.heap.size, j + q, none⟩ (.int .u64 (difW x y (j + q))))) := (hO.set (j + q) _).congr fun i _ => subZ_next x y (j + q) i
          have HU : Hid (Upd w.heap.size w1 (wr.setCell ⟨w.heap.size, j + q, none⟩ (.int .u64 (difW x y (j + q))))) := hU.set (j + q) _
          rw [hs] at HO HU
          clear hO hU hx hy zy hb0 hs hend
          go_wp2
          go_roundw
          case rel => exact ⟨q + 1, by omega, by go_num, by rw [HC.out], HO.out, HU.out⟩
          case measure => simp [intOf]; omega
end
end Go.Proofs.YtehgnckgmdkfmaaGreatDoor
