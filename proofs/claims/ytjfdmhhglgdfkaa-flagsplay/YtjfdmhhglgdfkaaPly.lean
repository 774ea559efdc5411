/-
  The law FlagsPlay: it returns true.
-/
import Derived.Test.YtjfdmhhglgdfkaaAwk
set_option linter.unusedVariables false
set_option linter.unusedSimpArgs false
namespace Go.Proofs.Ytjfdmhhglgdfkaa
open Go.RowKit

/-- a slice of calls -/
def Scr (w : World) (a : Option Addr) (n : Nat) (kd x : Nat → Int) : Prop :=
  n ≤ 9223372036854775807 ∧ ((a = none ∧ n = 0) ∨ ∃ b off, a = some ⟨b, off, none⟩ ∧ b < w.heap.size ∧ ∀ i, i < n → w.cell? ⟨b, off + i * 2, none⟩ = some (.int .i64 (kd i)) ∧ w.cell? ⟨b, off + i * 2 + 1, none⟩ = some (.int .i64 (x i)))
theorem Scr.below {w w' : World} {a : Option Addr} {n : Nat} {kd x : Nat → Int} (h : Scr w a n kd x) (hB : Below w.heap.size w w') : Scr w' a n kd x := by
  obtain ⟨h0, h⟩ := h
  rcases h with h | ⟨b, off, rfl, hb, hc⟩
  · exact ⟨h0, Or.inl h⟩
  · exact ⟨h0, Or.inr ⟨b, off, rfl, Nat.lt_of_lt_of_le hb hB.size, fun i hi => ⟨(hB.cell (p := ⟨b, off + i * 2, none⟩) hb).trans (hc i hi).1, (hB.cell (p := ⟨b, off + i * 2 + 1, none⟩) hb).trans (hc i hi).2⟩⟩⟩

theorem andNot_nought (r m : BitVec 4) : F (r &&& ~~~ m) = F (r &&& ~~~ m) := rfl

set_option maxRecDepth 20000 in
set_option maxHeartbeats 3200000 in
theorem flagsPlay_any (z : Bool) (a : Option Addr) (n c : Nat) (kd x : Nat → Int) (w : World) (hx : Scr w a n kd x) :
    Calls Try.prog 3 #[.slice a n c, .bool z] w fun e w' => e = .returned (.bool true) ∧ Below w.heap.size w w' := by
  have hn := hx.1
  have HX : Hid (Scr w a n kd x) := hx
  clear hx
  cases z
  · go_enter Try.func3, Try.ntmps3
    go_wp2_with (first | (go_at_call 8; refine (awake_any _).mono ?_; rintro e w0 ⟨rfl, b0⟩) | (go_at_call 9; refine (new_any _).mono ?_; rintro e w1 ⟨rfl, rfl⟩))
    have c0 : Ctx w0.heap.size 0#4 0 (w0.alloc (.cells #[.int .u32 0, .int .i32 0] 34)) := Ctx.new w0
    have b1 : Below w.heap.size w (w0.alloc (.cells #[.int .u32 0, .int .i32 0] 34)) := b0.alloc b0.size _
    have hg : w.heap.size ≤ w0.heap.size := b0.size
    clear b0
    generalize w0.alloc (.cells #[.int .u32 0, .int .i32 0] 34) = w1 at *
    generalize w0.heap.size = g at *
    have C0 : Hid (Ctx g 0#4 0 w1) := c0
    have B1 : Hid (Below w.heap.size w w1) := b1
    clear c0 b1
    go_loopw [6, 7, 8, 9, 10, 11, 20] (fun u6 u7 u8 u9 u10 u11 i wr => ∃ (k : Nat) (r : BitVec 4) (d : Int), k ≤ n ∧ i = .int .i64 k ∧ u6 = .int .i64 (F r) ∧ u7 = .int .i64 d ∧ (0 ≤ d ∧ d ≤ 4) ∧ Ctx g r d wr ∧ Below w.heap.size w wr) (fun _ _ _ _ _ _ i _ => n - (intOf i).toNat)
    case atStart => exact ⟨0, 0#4, 0, Nat.zero_le _, rfl, rfl, rfl, by omega, C0.out, B1.out⟩
    case round =>
      obtain ⟨k, r, d, hk, rfl, rfl, rfl, hd, hC, hB⟩ := hrel
      clear C0 B1
      by_cases hlt : k < n
      · have hki : (k : Int) < n := by omega
        obtain ⟨_, hx⟩ := HX.out.below hB
        rcases hx with ⟨_, hx⟩ | ⟨b, off, rfl, hb, hcell⟩
        · omega
        obtain ⟨hck, hcx⟩ := hcell k hlt
        have HC : Hid (Ctx g r d wr) := hC
        have HB : Hid (Below w.heap.size w wr) := hB
        clear hcell hC hB
        generalize kd k = kk at *
        generalize x k = m at *
        by_cases h1 : kk = 1
        · have t1 : (kk == 1) = true := by simp [h1]
          clear h1
          have f1 := and15 m
          have f2 := or64 r (L m)
          go_wp2_with (first | (go_at_call 10; refine (raise_any g r d m _ HC.out).mono ?_; rintro e w3 ⟨rfl, c3, u3⟩) | (go_at_call 14; refine (flags_any g _ d _ c3).mono ?_; rintro e w4 ⟨rfl, rfl⟩) | (go_at_call 15; refine (direction_any g _ d _ c3 hd).mono ?_; rintro e w4 ⟨rfl, rfl⟩))
          go_roundw
          case rel => exact ⟨k + 1, _, d, by omega, by go_num, rfl, rfl, hd, c3, HB.out.trans (u3.below hg)⟩
          case measure => simp [intOf]; omega
        have t1 : (kk == 1) = false := by simp [h1]
        clear h1
        by_cases h1 : kk = 2
        · have t2 : (kk == 2) = true := by simp [h1]
          clear h1
          have f1 := and64 r m
          have f2 : bits .and .i64 (F (r &&& L m)) 15 = F (r &&& L m) := by rw [and15, L_F]
          have f3 := andNot64 r m
          go_wp2_with (first | (go_at_call 11; refine (clear_any g r d m _ HC.out).mono ?_; rintro e w3 ⟨rfl, c3, u3⟩) | (go_at_call 14; refine (flags_any g _ d _ c3).mono ?_; rintro e w4 ⟨rfl, rfl⟩) | (go_at_call 15; refine (direction_any g _ d _ c3 hd).mono ?_; rintro e w4 ⟨rfl, rfl⟩))
          go_roundw
          case rel => exact ⟨k + 1, _, d, by omega, by go_num, rfl, rfl, hd, c3, HB.out.trans (u3.below hg)⟩
          case measure => simp [intOf]; omega
        have t2 : (kk == 2) = false := by simp [h1]
        clear h1
        by_cases h1 : kk = 3
        · have t3 : (kk == 3) = true := by simp [h1]
          clear h1
          have f1 := and64 r m
          have f2 : ((F (r &&& L m) != 0) != (F (r &&& L m) != 0)) = false := by simp
          have c3 := HC.out
          go_wp2_with (first | (go_at_call 12; refine (test_any g r d m _ c3).mono ?_; rintro e w3 ⟨rfl, rfl⟩) | (go_at_call 14; refine (flags_any g _ d _ c3).mono ?_; rintro e w4 ⟨rfl, rfl⟩) | (go_at_call 15; refine (direction_any g _ d _ c3 hd).mono ?_; rintro e w4 ⟨rfl, rfl⟩))
          go_roundw
          case rel => exact ⟨k + 1, _, d, by omega, by go_num, rfl, rfl, hd, c3, HB.out⟩
          case measure => simp [intOf]; omega
        have t3 : (kk == 3) = false := by simp [h1]
        clear h1
        by_cases h1 : kk = 4
        · have t4 : (kk == 4) = true := by simp [h1]
          clear h1
          by_cases hm : m < 0 ∨ 4 < m
          · have c3 := HC.out
            have hs := fun w => set_bad g m w hm
            rcases hm with hm | hm
            all_goals
              go_wp2_with (first | (go_at_call 13; refine (hs _).mono ?_; rintro e w3 ⟨rfl, rfl⟩) | (go_at_call 14; refine (flags_any g _ d _ c3).mono ?_; rintro e w4 ⟨rfl, rfl⟩) | (go_at_call 15; refine (direction_any g _ d _ c3 hd).mono ?_; rintro e w4 ⟨rfl, rfl⟩))
              go_roundw
              case rel => exact ⟨k + 1, _, d, by omega, by go_num, rfl, rfl, hd, c3, HB.out⟩
              case measure => simp [intOf]; omega
          · have hm' : 0 ≤ m ∧ m ≤ 4 := by omega
            clear hm
            go_wp2_with (first | (go_at_call 13; refine (set_any g r d m _ HC.out hd hm').mono ?_; rintro e w3 ⟨rfl, c3, u3⟩) | (go_at_call 14; refine (flags_any g _ m _ c3).mono ?_; rintro e w4 ⟨rfl, rfl⟩) | (go_at_call 15; refine (direction_any g _ m _ c3 hm').mono ?_; rintro e w4 ⟨rfl, rfl⟩))
            go_roundw
            case rel => exact ⟨k + 1, _, m, by omega, by go_num, rfl, rfl, hm', c3, HB.out.trans (u3.below hg)⟩
            case measure => simp [intOf]; omega
        have t4 : (kk == 4) = false := by simp [h1]
        clear h1
        have c3 := HC.out
        go_wp2_with (first | (go_at_call 14; refine (flags_any g _ d _ c3).mono ?_; rintro e w4 ⟨rfl, rfl⟩) | (go_at_call 15; refine (direction_any g _ d _ c3 hd).mono ?_; rintro e w4 ⟨rfl, rfl⟩))
        go_roundw
        case rel => exact ⟨k + 1, _, d, by omega, by go_num, rfl, rfl, hd, c3, HB.out⟩
        case measure => simp [intOf]; omega
      · obtain rfl : k = n := by omega
        go_wp2
        go_ret
        exact ⟨rfl, hB⟩
  · go_enter Try.func3, Try.ntmps3
    go_wp2_with (first | (go_at_call 8; refine (awake_any _).mono ?_; rintro e w0 ⟨rfl, b0⟩) | (go_at_call 9; refine (new_any _).mono ?_; rintro e w1 ⟨rfl, rfl⟩))
    have c0 := Ctx.new (w0.alloc (.cells #[.int .u32 0, .int .i32 0] 34))
    have b1 : Below w.heap.size w ((w0.alloc (.cells #[.int .u32 0, .int .i32 0] 34)).alloc (.cells #[.int .u32 0, .int .i32 0] 34)) := (b0.alloc b0.size _).alloc (Nat.le_trans b0.size (by simp)) _
    have hg : w.heap.size ≤ w0.heap.size + 1 := Nat.le_trans b0.size (by simp)
    rw [show (w0.alloc (.cells #[.int .u32 0, .int .i32 0] 34)).heap.size = w0.heap.size + 1 by simp] at c0
    clear b0
    generalize (w0.alloc (.cells #[.int .u32 0, .int .i32 0] 34)).alloc (.cells #[.int .u32 0, .int .i32 0] 34) = w1 at *
    generalize w0.heap.size + 1 = g at *
    have C0 : Hid (Ctx g 0#4 0 w1) := c0
    have B1 : Hid (Below w.heap.size w w1) := b1
    clear c0 b1
    go_loopw [6, 7, 8, 9, 10, 11, 20] (fun u6 u7 u8 u9 u10 u11 i wr => ∃ (k : Nat) (r : BitVec 4) (d : Int), k ≤ n ∧ i = .int .i64 k ∧ u6 = .int .i64 (F r) ∧ u7 = .int .i64 d ∧ (0 ≤ d ∧ d ≤ 4) ∧ Ctx g r d wr ∧ Below w.heap.size w wr) (fun _ _ _ _ _ _ i _ => n - (intOf i).toNat)
    case atStart => exact ⟨0, 0#4, 0, Nat.zero_le _, rfl, rfl, rfl, by omega, C0.out, B1.out⟩
    case round =>
      obtain ⟨k, r, d, hk, rfl, rfl, rfl, hd, hC, hB⟩ := hrel
      clear C0 B1
      by_cases hlt : k < n
      · have hki : (k : Int) < n := by omega
        obtain ⟨_, hx⟩ := HX.out.below hB
        rcases hx with ⟨_, hx⟩ | ⟨b, off, rfl, hb, hcell⟩
        · omega
        obtain ⟨hck, hcx⟩ := hcell k hlt
        have HC : Hid (Ctx g r d wr) := hC
        have HB : Hid (Below w.heap.size w wr) := hB
        clear hcell hC hB
        generalize kd k = kk at *
        generalize x k = m at *
        by_cases h1 : kk = 1
        · have t1 : (kk == 1) = true := by simp [h1]
          clear h1
          have f1 := and15 m
          have f2 := or64 r (L m)
          go_wp2_with (first | (go_at_call 10; refine (raise_any g r d m _ HC.out).mono ?_; rintro e w3 ⟨rfl, c3, u3⟩) | (go_at_call 14; refine (flags_any g _ d _ c3).mono ?_; rintro e w4 ⟨rfl, rfl⟩) | (go_at_call 15; refine (direction_any g _ d _ c3 hd).mono ?_; rintro e w4 ⟨rfl, rfl⟩))
          go_roundw
          case rel => exact ⟨k + 1, _, d, by omega, by go_num, rfl, rfl, hd, c3, HB.out.trans (u3.below hg)⟩
          case measure => simp [intOf]; omega
        have t1 : (kk == 1) = false := by simp [h1]
        clear h1
        by_cases h1 : kk = 2
        · have t2 : (kk == 2) = true := by simp [h1]
          clear h1
          have f1 := and64 r m
          have f2 : bits .and .i64 (F (r &&& L m)) 15 = F (r &&& L m) := by rw [and15, L_F]
          have f3 := andNot64 r m
          go_wp2_with (first | (go_at_call 11; refine (clear_any g r d m _ HC.out).mono ?_; rintro e w3 ⟨rfl, c3, u3⟩) | (go_at_call 14; refine (flags_any g _ d _ c3).mono ?_; rintro e w4 ⟨rfl, rfl⟩) | (go_at_call 15; refine (direction_any g _ d _ c3 hd).mono ?_; rintro e w4 ⟨rfl, rfl⟩))
          go_roundw
          case rel => exact ⟨k + 1, _, d, by omega, by go_num, rfl, rfl, hd, c3, HB.out.trans (u3.below hg)⟩
          case measure => simp [intOf]; omega
        have t2 : (kk == 2) = false := by simp [h1]
        clear h1
        by_cases h1 : kk = 3
        · have t3 : (kk == 3) = true := by simp [h1]
          clear h1
          have f1 := and64 r m
          have f2 : ((F (r &&& L m) != 0) != (F (r &&& L m) != 0)) = false := by simp
          have c3 := HC.out
          go_wp2_with (first | (go_at_call 12; refine (test_any g r d m _ c3).mono ?_; rintro e w3 ⟨rfl, rfl⟩) | (go_at_call 14; refine (flags_any g _ d _ c3).mono ?_; rintro e w4 ⟨rfl, rfl⟩) | (go_at_call 15; refine (direction_any g _ d _ c3 hd).mono ?_; rintro e w4 ⟨rfl, rfl⟩))
          go_roundw
          case rel => exact ⟨k + 1, _, d, by omega, by go_num, rfl, rfl, hd, c3, HB.out⟩
          case measure => simp [intOf]; omega
        have t3 : (kk == 3) = false := by simp [h1]
        clear h1
        by_cases h1 : kk = 4
        · have t4 : (kk == 4) = true := by simp [h1]
          clear h1
          by_cases hm : m < 0 ∨ 4 < m
          · have c3 := HC.out
            have hs := fun w => set_bad g m w hm
            rcases hm with hm | hm
            all_goals
              go_wp2_with (first | (go_at_call 13; refine (hs _).mono ?_; rintro e w3 ⟨rfl, rfl⟩) | (go_at_call 14; refine (flags_any g _ d _ c3).mono ?_; rintro e w4 ⟨rfl, rfl⟩) | (go_at_call 15; refine (direction_any g _ d _ c3 hd).mono ?_; rintro e w4 ⟨rfl, rfl⟩))
              go_roundw
              case rel => exact ⟨k + 1, _, d, by omega, by go_num, rfl, rfl, hd, c3, HB.out⟩
              case measure => simp [intOf]; omega
          · have hm' : 0 ≤ m ∧ m ≤ 4 := by omega
            clear hm
            go_wp2_with (first | (go_at_call 13; refine (set_any g r d m _ HC.out hd hm').mono ?_; rintro e w3 ⟨rfl, c3, u3⟩) | (go_at_call 14; refine (flags_any g _ m _ c3).mono ?_; rintro e w4 ⟨rfl, rfl⟩) | (go_at_call 15; refine (direction_any g _ m _ c3 hm').mono ?_; rintro e w4 ⟨rfl, rfl⟩))
            go_roundw
            case rel => exact ⟨k + 1, _, m, by omega, by go_num, rfl, rfl, hm', c3, HB.out.trans (u3.below hg)⟩
            case measure => simp [intOf]; omega
        have t4 : (kk == 4) = false := by simp [h1]
        clear h1
        have c3 := HC.out
        go_wp2_with (first | (go_at_call 14; refine (flags_any g _ d _ c3).mono ?_; rintro e w4 ⟨rfl, rfl⟩) | (go_at_call 15; refine (direction_any g _ d _ c3 hd).mono ?_; rintro e w4 ⟨rfl, rfl⟩))
        go_roundw
        case rel => exact ⟨k + 1, _, d, by omega, by go_num, rfl, rfl, hd, c3, HB.out⟩
        case measure => simp [intOf]; omega
      · obtain rfl : k = n := by omega
        go_wp2
        go_ret
        exact ⟨rfl, hB⟩
end Go.Proofs.Ytjfdmhhglgdfkaa
