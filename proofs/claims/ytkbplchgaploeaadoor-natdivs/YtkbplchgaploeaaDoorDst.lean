/-
  What nat's subProduct and divideStep do: contracts.
-/
import Derived.Test.YtkbplchgaploeaaDoorDgs
set_option linter.unusedVariables false
set_option linter.unusedSimpArgs false
namespace Go.Proofs.YtkbplchgaploeaaDoor
open Go.RowKit

theorem seg_next (z : Nat → Int) (off j : Nat) : val (segW z off (j + 1)) (j + 1) = val (segW z off j) j + z (off + j) * 18446744073709551616 ^ j := by
  show val (segW z off (j + 1)) j + segW z off (j + 1) j * 18446744073709551616 ^ j = _
  rw [segW_lt z off (j + 1) j (by omega), val_congr (x := segW z off (j + 1)) (y := segW z off j) j fun i hi => by rw [segW_lt _ _ _ i (by omega), segW_lt _ _ _ i hi]]
theorem seg_congr {z z' : Nat → Int} (off j : Nat) (h : ∀ i, off ≤ i → i < off + j → z i = z' i) : val (segW z off j) j = val (segW z' off j) j :=
  val_congr j fun i hi => by rw [segW_lt _ _ _ i hi, segW_lt _ _ _ i hi, h (off + i) (by omega) (by omega)]
theorem sub_round {V V0 C n vy yj zj l hi l' bo : Int} {Q : Int} (h : V - C * Q = V0 - n * vy) (hl : l + hi * 18446744073709551616 = yj * n + 0 + C) (hb : l' - bo * 18446744073709551616 = zj - l) :
    V + l' * Q - (hi + bo) * (Q * 18446744073709551616) = V0 + zj * Q - n * (vy + yj * Q) := by grind

theorem sub_nowrap {yj n C l hi zj : Int} (hy : 0 ≤ yj ∧ yj ≤ 18446744073709551615) (hn : 0 ≤ n ∧ n ≤ 18446744073709551615) (hC : 0 ≤ C ∧ C ≤ 18446744073709551615) (hl : l + hi * 18446744073709551616 = yj * n + 0 + C) (hlb : 0 ≤ l ∧ l ≤ 18446744073709551615) (hz : 0 ≤ zj ∧ zj ≤ 18446744073709551615) : hi + bor zj l 0 ≤ 18446744073709551615 := by
  have hp : yj * n ≤ 18446744073709551615 * 18446744073709551615 := Int.mul_le_mul hy.2 hn.2 hn.1 (by decide)
  have hb := bor_01 zj l 0
  by_cases e : hi = 18446744073709551615
  · have e2 : l = 0 := by omega
    have : bor zj l 0 = 0 := by unfold bor; rw [if_neg (by omega)]
    omega
  · omega

set_option maxHeartbeats 1000000 in
theorem subProduct_any (g N off m c k c' : Nat) (a' : Option Addr) (x y : Nat → Int) (n : Int) (w : World) (hm : off + m ≤ N) (hN : N < 4294967296) (hk : k ≤ m) (hx : Words x) (hn : 0 ≤ n ∧ n ≤ 18446744073709551615) (h : Own g N x w) (h' : Num w a' k c' y) (hA : Apart a' g) :
    Calls Tryd.prog 73 #[.slice (some ⟨g, off, none⟩) m c, .slice a' k c', .int .u64 n] w fun e w' => ∃ C z, e = .returned (.int .u64 C) ∧ (0 ≤ C ∧ C ≤ 18446744073709551615) ∧ Own g N z w' ∧ Words z ∧ val (segW z off k) k - C * 18446744073709551616 ^ k = val (segW x off k) k - n * val y k ∧ (∀ i, i < off ∨ off + k ≤ i → z i = x i) ∧ Upd g w w' := by
  have hy := h'.2.2.1
  go_enter Tryd.func73, Tryd.ntmps73
  go_wp2
  go_loopw [7, 8, 9, 10, 11, 12, 15, 20, 27] (fun cv u8 u9 u10 u11 u12 i u20 u27 wr => ∃ (j : Nat) (C : Int) (z : Nat → Int), j ≤ k ∧ i = .int .i64 j ∧ cv = .int .u64 C ∧ (0 ≤ C ∧ C ≤ 18446744073709551615) ∧ Own g N z wr ∧ Words z ∧ Hid (val (segW z off j) j - C * 18446744073709551616 ^ j = val (segW x off j) j - n * val y j) ∧ (∀ i, i < off ∨ off + j ≤ i → z i = x i) ∧ Upd g w wr) (fun _ _ _ _ _ _ i _ _ _ => k - (intOf i).toNat)
  case atStart => exact ⟨0, 0, x, Nat.zero_le _, rfl, rfl, by decide, h, hx, by show _ = _; simp [val], fun _ _ => rfl, Upd.refl _ _⟩
  case round =>
    obtain ⟨j, C, z, hj, rfl, rfl, hCb, hO, hzw, hv, hzx, hU⟩ := hrel
    by_cases hlt : j < k
    · have hji : (j : Int) < k := by omega
      have hjm : (j : Int) < m := by omega
      obtain ⟨b, off', rfl, hb, hc⟩ := (hU.num' hA h').cells (by omega)
      have hcj := hc j hlt
      have hco := hO.cell (off + j) (by omega)
      have hzj : z (off + j) = x (off + j) := hzx _ (by omega)
      rw [hzj] at hco
      have hfo := hO.frozen (off + j)
      have hma := fun w => mulAdd_any (y j) n 0 C w (hy j) hn (by decide) hCb
      have bx := hx (off + j)
      have b_y := hy j
      have HO : Hid (Own g N z wr) := hO
      have HU : Hid (Upd g w wr) := hU
      have HZW : Hid (Words z) := hzw
      have HZX : Hid (∀ i, i < off ∨ off + j ≤ i → z i = x i) := hzx
      clear hO hU hc h h' hA hx hy hzw hzx
      go_wp2_with (go_at_call 62; refine (hma _).mono ?_; rintro e w1 ⟨l, hi, rfl, hlh, hlb, hhb, rfl⟩; have hsb := fun w => sub64 (x (off + j)) l 0 bx.1 hlb.1 (by omega) (by decide) (by decide) w; have hbo := bor_01 (x (off + j)) l 0; have hbv := bor_val bx hlb (b := 0) (by decide); have hw := sub_nowrap b_y hn hCb hlh hlb bx; rw [Int.sub_zero] at hsb hbv; generalize bor (x (off + j)) l 0 = bo at *)
      go_roundw
      case rel =>
        refine ⟨j + 1, hi + bo, fun i => if i = off + j then (x (off + j) - l) % 18446744073709551616 else z i, by omega, by go_num, rfl, by omega, HO.out.set (off + j) _, upd_words HZW.out (by omega), ?_, ?_, HU.out.set (off + j) _⟩
        · show _ = _
          rw [seg_next, seg_next, if_pos rfl, seg_congr (z := fun i => if i = off + j then (x (off + j) - l) % 18446744073709551616 else z i) (z' := z) off j fun i h1 h2 => if_neg (by omega), Int.pow_succ]
          exact sub_round hv.out hlh (by omega)
        · intro i hi2
          exact (if_neg (show ¬ i = off + j by omega)).trans (HZX.out i (by omega))
      case measure => simp [intOf]; omega
    · obtain rfl : j = k := by omega
      have HO : Hid (Own g N z wr) := hO
      have HU : Hid (Upd g w wr) := hU
      have HZW : Hid (Words z) := hzw
      have HZX : Hid (∀ i, i < off ∨ off + j ≤ i → z i = x i) := hzx
      clear hO hU h h' hA hx hy hzw hzx
      go_wp2
      go_ret
      exact ⟨C, z, rfl, hCb, HO.out, HZW.out, hv.out, HZX.out, HU.out⟩
end Go.Proofs.YtkbplchgaploeaaDoor
