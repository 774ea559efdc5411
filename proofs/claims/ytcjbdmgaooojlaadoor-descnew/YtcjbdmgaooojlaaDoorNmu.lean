/-
  What nat's mulAdd, addProduct and Mul do: contracts.
-/
import Derived.Test.YtcjbdmgaooojlaaDoorAdds
set_option linter.unusedVariables false
set_option linter.unusedSimpArgs false
set_option maxRecDepth 20000
namespace Go.Proofs.YtcjbdmgaooojlaaDoor
open Go.RowKit

theorem low_high {l h t : Int} (e : l + h * 18446744073709551616 = t) (h0 : 0 ≤ l) (h1 : l ≤ 18446744073709551615) : t % 18446744073709551616 = l ∧ t / 18446744073709551616 = h := by omega

set_option maxHeartbeats 1000000 in
theorem mulAdd_any (a n z C : Int) (w : World) (ha : 0 ≤ a ∧ a ≤ 18446744073709551615) (hn : 0 ≤ n ∧ n ≤ 18446744073709551615) (hz : 0 ≤ z ∧ z ≤ 18446744073709551615) (hC : 0 ≤ C ∧ C ≤ 18446744073709551615) :
    Calls Tryd.prog 78 #[.int .u64 a, .int .u64 n, .int .u64 z, .int .u64 C] w fun e w' => ∃ l h, e = .returned (.tuple #[.int .u64 l, .int .u64 h]) ∧ l + h * 18446744073709551616 = a * n + z + C ∧ (0 ≤ l ∧ l ≤ 18446744073709551615) ∧ (0 ≤ h ∧ h ≤ 18446744073709551615) ∧ w = w' := by
  have hms := mul_step a n z C ha hn hz hC
  have hmul := mul64 a n ha hn w
  have hL0 : 0 ≤ a * n % 18446744073709551616 := Int.emod_nonneg _ (by decide)
  have hA1 := fun w => add64z (a * n % 18446744073709551616) z hL0 hz.1 w
  have hs0 : 0 ≤ (a * n % 18446744073709551616 + z) % 18446744073709551616 := Int.emod_nonneg _ (by decide)
  have hA2 := fun w => add64z ((a * n % 18446744073709551616 + z) % 18446744073709551616) C hs0 hC.1 w
  have ht0 : 0 ≤ ((a * n % 18446744073709551616 + z) % 18446744073709551616 + C) % 18446744073709551616 ∧ ((a * n % 18446744073709551616 + z) % 18446744073709551616 + C) % 18446744073709551616 ≤ 18446744073709551615 := by omega
  generalize ((a * n % 18446744073709551616 + z) % 18446744073709551616 + C) % 18446744073709551616 = t2 at *
  generalize ((a * n % 18446744073709551616 + z) % 18446744073709551616 + C) / 18446744073709551616 = f2 at *
  generalize (a * n % 18446744073709551616 + z) % 18446744073709551616 = t1 at *
  generalize (a * n % 18446744073709551616 + z) / 18446744073709551616 = f1 at *
  generalize a * n % 18446744073709551616 = lo at *
  generalize a * n / 18446744073709551616 = hi at *
  have HMS : Hid (t2 + (hi + f1 + f2) * 18446744073709551616 = a * n + z + C) := hms.1
  have hb1 : 0 ≤ hi + f1 := hms.2.1
  have hb2 : hi + f1 ≤ 18446744073709551615 := hms.2.2.1
  have hb3 : 0 ≤ hi + f1 + f2 := hms.2.2.2.1
  have hb4 : hi + f1 + f2 ≤ 18446744073709551615 := hms.2.2.2.2
  clear hms
  go_enter Tryd.func78, Tryd.ntmps78
  go_wp2_with (go_at_call 79; refine hmul.mono ?_; rintro e w' ⟨rfl, rfl⟩)
  go_ret2
  exact ⟨t2, hi + f1 + f2, rfl, HMS.out, ht0, ⟨hb3, hb4⟩, rfl⟩

set_option maxHeartbeats 1000000 in
theorem addProduct_any (g N off m c k c' : Nat) (a' : Option Addr) (x y : Nat → Int) (n : Int) (w : World) (hm : off + m ≤ N) (hN : N < 4294967296) (hk : k ≤ m) (hx : Words x) (hn : 0 ≤ n ∧ n ≤ 18446744073709551615) (h : Own g N x w) (h' : Num w a' k c' y) (hA : Apart a' g) :
    Calls Tryd.prog 52 #[.slice (some ⟨g, off, none⟩) m c, .slice a' k c', .int .u64 n] w fun e w' => ∃ C z, e = .returned (.int .u64 C) ∧ (0 ≤ C ∧ C ≤ 18446744073709551615) ∧ Own g N z w' ∧ Words z ∧ val z N + C * 18446744073709551616 ^ (off + k) = val x N + n * val y k * 18446744073709551616 ^ off ∧ (∀ i, off + k ≤ i → z i = x i) ∧ Upd g w w' := by
  have hy := h'.2.2.1
  go_enter Tryd.func52, Tryd.ntmps52
  go_wp2
  go_loopw [7, 8, 9, 12, 17] (fun cv u8 u9 i u17 wr => ∃ (j : Nat) (C : Int) (z : Nat → Int), j ≤ k ∧ i = .int .i64 j ∧ cv = .int .u64 C ∧ (0 ≤ C ∧ C ≤ 18446744073709551615) ∧ Own g N z wr ∧ Words z ∧ Hid (val z N + C * 18446744073709551616 ^ (off + j) = val x N + n * val y j * 18446744073709551616 ^ off) ∧ (∀ i, off + j ≤ i → z i = x i) ∧ Upd g w wr) (fun _ _ _ i _ _ => k - (intOf i).toNat)
  case atStart => exact ⟨0, 0, x, Nat.zero_le _, rfl, rfl, by decide, h, hx, by show _ = _; simp [val], fun _ _ => rfl, Upd.refl _ _⟩
  case round =>
    obtain ⟨j, C, z, hj, rfl, rfl, hCb, hO, hzw, hv, hzx, hU⟩ := hrel
    by_cases hlt : j < k
    · have hji : (j : Int) < k := by omega
      have hjm : (j : Int) < m := by omega
      obtain ⟨b, off', rfl, hb, hc⟩ := (hU.num' hA h').cells (by omega)
      have hcj := hc j hlt
      have hco := hO.cell (off + j) (by omega)
      have hfo := hO.frozen (off + j)
      have hma := fun w => mulAdd_any (y j) n (z (off + j)) C w (hy j) hn (hzw (off + j)) hCb
      have HO : Hid (Own g N z wr) := hO
      have HU : Hid (Upd g w wr) := hU
      have HZW : Hid (Words z) := hzw
      have HZX : Hid (∀ i, off + j ≤ i → z i = x i) := hzx
      clear hO hU hc h h' hA hx hy hzw hzx
      go_wp2_with (go_at_call 78; refine (hma _).mono ?_; rintro e w1 ⟨l, hi, rfl, hlh, hlb, hhb, rfl⟩)
      go_roundw
      case rel =>
        refine ⟨j + 1, hi, fun i => if i = off + j then l else z i, by omega, by go_num, rfl, hhb, HO.out.set (off + j) l, upd_words HZW.out hlb, ?_, ?_, HU.out.set (off + j) _⟩
        · show _ = _
          rw [val_set z (off + j) l N (by omega)]
          exact mul_inner _ _ _ _ _ _ _ _ _ off j hv.out (by rw [hlh, Int.mul_comm (y j) n])
        · intro i hi2
          exact (if_neg (show ¬ i = off + j by omega)).trans (HZX.out i (by omega))
      case measure => simp [intOf]; omega
    · obtain rfl : j = k := by omega
      have HO : Hid (Own g N z wr) := hO
      have HU : Hid (Upd g w wr) := hU
      have HZW : Hid (Words z) := hzw
      have HZX : Hid (∀ i, off + j ≤ i → z i = x i) := hzx
      clear hO hU h h' hA hx hy hzw hzx
      go_wp2
      go_ret
      exact ⟨C, z, rfl, hCb, HO.out, HZW.out, hv.out, HZX.out, HU.out⟩

theorem apart_of {w : World} {a : Option Addr} {n c : Nat} {x : Nat → Int} (h : Num w a n c x) : Apart a w.heap.size := by
  intro p hp
  rcases h.2.2.2.2 with ⟨h, _⟩ | ⟨b, off, h, hb, _⟩
  · rw [h] at hp; cases hp
  · rw [h] at hp; cases hp; exact Nat.ne_of_lt hb
theorem val_zero : ∀ m, val (fun _ => 0) m = 0 := by intro m; induction m with | zero => rfl | succ m ih => simp only [val]; rw [ih]; simp

set_option maxHeartbeats 2000000 in
theorem nmul_any (a a' : Option Addr) (n c n' c' : Nat) (x y : Nat → Int) (w : World) (hn : n < 4000000000) (hn' : n' < 4000000000) (h : Num w a n c x) (h' : Num w a' n' c' y) (hs : sizeL x n + sizeL y n' ≤ 2000) :
    Calls Tryd.prog 34 #[.slice a n c, .slice a' n' c'] w fun e w' => ∃ g k cap z, e = .returned (.tuple #[.slice (some ⟨g, 0, none⟩) k cap, .int .i64 0]) ∧ k ≤ sizeL x n + sizeL y n' ∧ Num w' (some ⟨g, 0, none⟩) k cap z ∧ val z k = val x n * val y n' ∧ sizeL z k = k ∧ Below w.heap.size w w' := by
  have hb := bare_any a n c x w (by omega) h
  have hb' := bare_any a' n' c' y w (by omega) h'
  rw [← val_bare n, ← val_bare n']
  have hx := h.2.2.1
  have hy := h'.2.2.1
  have hle := sizeL_le x n
  have hle' := sizeL_le y n'
  have hN := h.bare
  have hN' := h'.bare
  generalize sizeL x n = s at *
  generalize sizeL y n' = s' at *
  clear h h'
  obtain ⟨N, hNs⟩ : ∃ N, s + s' = N := ⟨_, rfl⟩
  have hNi : (s : Int) + s' = N := by omega
  have hmk := fun w => make_any ((s : Int) + s') N hNi (by omega) w
  have hN2 : (s : Int) + s' ≤ 2000 := by omega
  have HNS : Hid (s + s' = N) := hNs
  have hA := apart_of hN
  have hA' := apart_of hN'
  have hO := Own.new w (fun _ => 0) N
  have hBW := below1 w (.cells (arrOf (fun _ => 0) N) 37)
  have hnx := hN.next hBW
  have hny := hN'.next hBW
  have hap := fun wr z off hO hzw hU (hoff : off + s ≤ N) n hn => addProduct_any w.heap.size N off (N - off) (N - off) s c a z x n wr (by omega) (by omega) (by omega) hzw hn hO (Upd.num' (w := w.alloc (.cells (arrOf (fun _ => 0) N) 37)) hU hA hnx) hA
  have HBW : Hid (Below w.heap.size w (w.alloc (.cells (arrOf (fun _ => 0) N) 37))) := hBW
  clear hBW hN hN' hNi hNs
  go_enter Tryd.func34, Tryd.ntmps34
  go_wp2_with (first | (go_at_call_of 45 (Value.slice a n c); refine hb.mono ?_; rintro e w' ⟨rfl, rfl⟩) | (go_at_call_of 45 (Value.slice a' n' c'); refine hb'.mono ?_; rintro e w' ⟨rfl, rfl⟩))
  generalize w.alloc (.cells (arrOf (fun _ => 0) N) 37) = wA at *
  go_loopw [9, 10, 29] (fun u9 u10 i wr => ∃ (j : Nat) (z : Nat → Int), j ≤ s' ∧ i = .int .i64 j ∧ Own w.heap.size N z wr ∧ Words z ∧ (∀ q, s + j ≤ q → z q = 0) ∧ Hid (val z N = val x s * val y j) ∧ Upd w.heap.size wA wr) (fun _ _ i _ => s' - (intOf i).toNat)
  case atStart => exact ⟨0, fun _ => 0, Nat.zero_le _, rfl, hO, fun _ => (by decide : (0 : Int) ≤ 0 ∧ (0 : Int) ≤ 18446744073709551615), fun _ _ => rfl, by show _ = _; rw [val_zero]; simp [val], Upd.refl _ _⟩
  case round =>
    clear hO
    obtain ⟨j, z, hj, rfl, hO, hzw, hz0, hv, hU⟩ := hrel
    by_cases hlt : j < s'
    · have hji : (j : Int) < s' := by omega
      obtain ⟨b, off', rfl, hbb, hc⟩ := (hU.num' hA' hny).cells (by omega)
      have hcj := hc j hlt
      have hap1 := hap wr z j hO hzw hU (by have := HNS.out; omega) (y j) (hy j)
      have hjN : (j : Int) ≤ N := by have := HNS.out; omega
      have hjs : (j : Int) + s < N := by have := HNS.out; omega
      have e1 : ((j : Int) + s).toNat = j + s := by omega
      have HU : Hid (Upd w.heap.size wA wr) := hU
      have HZ0 : Hid (∀ q, s + j ≤ q → z q = 0) := hz0
      clear hO hU hc hzw hz0 hap hx hy hA hA' hnx hny
      go_wp2_with (go_at_call 52; refine hap1.mono ?_; rintro e w1 ⟨C, z1, rfl, hCb, hO1, hw1, hv1, hzx1, hU1⟩; have hc1 := hO1.cell (j + s) (by have := HNS.out; omega); have hf1 := hO1.frozen (j + s))
      go_roundw
      case rel =>
        have e2 : z1 (j + s) = 0 := by rw [hzx1 (j + s) (Nat.le_refl _)]; exact HZ0.out _ (by omega)
        refine ⟨j + 1, fun i => if i = j + s then C else z1 i, by omega, by go_num, hO1.set (j + s) C, upd_words hw1 hCb, ?_, ?_, (HU.out.trans hU1).set (j + s) _⟩
        · intro q hq
          exact (if_neg (show ¬ q = j + s by omega)).trans ((hzx1 q (by omega)).trans (HZ0.out q (by omega)))
        · show _ = _
          rw [val_set z1 (j + s) C N (by have := HNS.out; omega), e2, Int.sub_zero, hv1, hv.out]
          show _ = val x s * (val y j + y j * 18446744073709551616 ^ j)
          generalize (18446744073709551616 : Int) ^ j = P
          grind
      case measure => simp [intOf]; omega
    · obtain rfl : j = s' := by omega
      have hN2' := hO.num hzw 0 N N (by omega) (Nat.le_refl _) (by unfold maxLen; have := HNS.out; omega)
      have hbr := bare_any (some ⟨w.heap.size, 0, none⟩) N N (segW z 0 N) wr (by have := HNS.out; omega) hN2'
      have HN2 : Hid (Num wr (some ⟨w.heap.size, 0, none⟩) (sizeL (segW z 0 N) N) N (segW z 0 N)) := hN2'.bare
      have HV2 : Hid (val (segW z 0 N) (sizeL (segW z 0 N) N) = val x s * val y j) := by
        show _ = _
        rw [val_bare, val_congr (x := segW z 0 N) (y := z) N fun i hi => by rw [segW_lt _ 0 N i hi, Nat.zero_add], hv.out]
      have HS2 : Hid (sizeL (segW z 0 N) (sizeL (segW z 0 N) N) = sizeL (segW z 0 N) N) := sizeL_sizeL _ _
      have HLE : Hid (sizeL (segW z 0 N) N ≤ N) := sizeL_le _ _
      generalize segW z 0 N = z2 at *
      generalize sizeL z2 N = k at *
      have HB2 : Hid (Below w.heap.size w wr) := HBW.out.trans (hU.below (Nat.le_refl _))
      clear hO hU hN2' hx hy hzw hz0 hap hA hA' hnx hny
      go_wp2_with (go_at_call 45; refine hbr.mono ?_; rintro e w3 ⟨rfl, rfl⟩)
      go_ret2
      exact ⟨_, k, N, z2, rfl, by rw [HNS.out]; exact HLE.out, HN2.out, HV2.out, HS2.out, HB2.out⟩
set_option maxHeartbeats 400000 in
theorem nmul_long (a a' : Option Addr) (n c n' c' : Nat) (x y : Nat → Int) (w : World) (hn : n < 4000000000) (hn' : n' < 4000000000) (h : Num w a n c x) (h' : Num w a' n' c' y) (hs : 2000 < sizeL x n + sizeL y n') :
    Calls Tryd.prog 34 #[.slice a n c, .slice a' n' c'] w fun e w' => e = .returned (.tuple #[.slice none 0 0, .int .i64 4]) ∧ w = w' := by
  have hb := bare_any a n c x w (by omega) h
  have hb' := bare_any a' n' c' y w (by omega) h'
  have hle := sizeL_le x n
  have hle' := sizeL_le y n'
  have hs' : (2000 : Int) < (sizeL x n : Int) + sizeL y n' := by omega
  generalize sizeL x n = s at *
  generalize sizeL y n' = s' at *
  clear h h'
  go_enter Tryd.func34, Tryd.ntmps34
  go_wp2_with (first | (go_at_call_of 45 (Value.slice a n c); refine hb.mono ?_; rintro e w' ⟨rfl, rfl⟩) | (go_at_call_of 45 (Value.slice a' n' c'); refine hb'.mono ?_; rintro e w' ⟨rfl, rfl⟩))
  go_ret2
  exact ⟨rfl, rfl⟩

def mulE (s s' : Nat) : Int := if 2000 < s + s' then 4 else 0
def mulV (s s' : Nat) (V W : Int) : Int := if 2000 < s + s' then 0 else V * W
theorem nmul_all (a a' : Option Addr) (n c n' c' : Nat) (x y : Nat → Int) (w : World) (hn : n < 4000000000) (hn' : n' < 4000000000) (h : Num w a n c x) (h' : Num w a' n' c' y) :
    Calls Tryd.prog 34 #[.slice a n c, .slice a' n' c'] w fun e w' => ∃ o k cap z, e = .returned (.tuple #[.slice o k cap, .int .i64 (mulE (sizeL x n) (sizeL y n'))]) ∧ k ≤ 2000 ∧ Num w' o k cap z ∧ val z k = mulV (sizeL x n) (sizeL y n') (val x n) (val y n') ∧ sizeL z k = k ∧ Below w.heap.size w w' := by
  by_cases hs : 2000 < sizeL x n + sizeL y n'
  · refine (nmul_long a a' n c n' c' x y w hn hn' h h' hs).mono fun e w' hw => ⟨none, 0, 0, _, ?_, Nat.zero_le _, num_none w', ?_, rfl, hw.2 ▸ Below.refl _ _⟩
    · rw [hw.1]; unfold mulE; rw [if_pos hs]
    · unfold mulV; rw [if_pos hs]; rfl
  · refine (nmul_any a a' n c n' c' x y w hn hn' h h' (by omega)).mono fun e w' ⟨g, k, cap, z, e1, hk, hN, hv1, hs1, hB⟩ => ⟨_, k, cap, z, ?_, by omega, hN, ?_, hs1, hB⟩
    · rw [e1]; unfold mulE; rw [if_neg hs]
    · rw [hv1]; unfold mulV; rw [if_neg hs]
end Go.Proofs.YtcjbdmgaooojlaaDoor
