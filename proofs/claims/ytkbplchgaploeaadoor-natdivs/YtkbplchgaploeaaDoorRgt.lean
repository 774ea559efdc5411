/-
  What the document's Right does, with what goes out told: contracts.
-/
import Derived.Test.YtkbplchgaploeaaDoorNsl
set_option linter.unusedVariables false
set_option linter.unusedSimpArgs false
namespace Go.Proofs.YtkbplchgaploeaaDoor
open Go.RowKit
attribute [local go_sem] setCell_drewN alloc_drewN

/-- whether a bit goes out that is 1 -/
def goneB (x : Nat → Int) (q r : Nat) : Bool := decide (0 < sizeL x q) || decide (x q % 2 ^ r ≠ 0)
/-- the same, of the words below k -/
def goneK (x : Nat → Int) (q r k : Nat) : Bool := if k ≤ q then decide (0 < sizeL x k) else goneB x q r
theorem goneK_zero (x : Nat → Int) (q r : Nat) : goneK x q r 0 = false := by unfold goneK; rw [if_pos (Nat.zero_le _)]; rfl
theorem goneK_lt0 {x : Nat → Int} {q r k : Nat} (h : k < q) (hz : x k = 0) : goneK x q r (k + 1) = goneK x q r k := by
  unfold goneK; rw [if_pos (by omega), if_pos (by omega)]; simp [sizeL, hz]
theorem goneK_lt1 {x : Nat → Int} {q r k : Nat} (h : k < q) (hz : ¬ x k = 0) : goneK x q r (k + 1) = true := by
  unfold goneK; rw [if_pos (by omega)]; simp [sizeL, hz]
theorem goneK_eq (x : Nat → Int) (k r : Nat) : goneK x k r (k + 1) = (goneK x k r k || decide (x k % 2 ^ r ≠ 0)) := by
  unfold goneK; rw [if_neg (by omega), if_pos (Nat.le_refl _)]; rfl
theorem goneK_gt {x : Nat → Int} {q r k : Nat} (h : q < k) : goneK x q r (k + 1) = goneK x q r k := by
  unfold goneK; rw [if_neg (by omega), if_neg (by omega)]
theorem goneK_end {x : Nat → Int} {q r n : Nat} (h : q < n) : goneK x q r n = goneB x q r := by
  unfold goneK; rw [if_neg (by omega)]
theorem and_mask {y : Int} {r : Nat} (hy : 0 ≤ y ∧ y ≤ 18446744073709551615) (hr : r < 64) : bits BinOp.and IntKind.u64 y (2 ^ r - 1) = y % 2 ^ r := by
  have h1 := p2_pos r
  have h2 := p2_le hr
  rw [u64_and _ _ hy.1 (by omega) (by omega) (by omega)]
  obtain ⟨n, rfl⟩ := Int.eq_ofNat_of_zero_le hy.1
  have e : ((2 : Int) ^ r - 1).toNat = 2 ^ r - 1 := by rw [← powCast]; omega
  rw [e, Int.toNat_natCast, Nat.and_two_pow_sub_one_eq_mod, Int.natCast_emod, powCast]

set_option maxHeartbeats 1000000 in
theorem rgt_z (b off n c q : Nat) (s : Int) (x : Nat → Int) (w : World) (hn : n < 4000000000) (hq0 : q < 100000)  (hq : s / 64 = q) (hr : s % 64 = 0) (hs : 0 ≤ s) (hqn : q < n) (h : Num w (some ⟨b, off, none⟩) n c x) :
    Calls Tryd.prog 51 #[.slice (some ⟨b, off, none⟩) n c, .int .i64 s] w fun e w' => ∃ g k cap, e = .returned (.tuple #[.slice (some ⟨g, 0, none⟩) k cap, .bool (goneB x q 0)]) ∧ k ≤ n ∧ Num w' (some ⟨g, 0, none⟩) k cap (shrW x q 0) ∧ Below w.heap.size w w' := by
  have hx := h.2.2.1
  have zx := h.2.2.2.1
  have hc : b < w.heap.size ∧ ∀ i, i < n → w.cell? ⟨b, off + i, none⟩ = some (.int .u64 (x i)) := by
    rcases h.2.2.2.2 with ⟨h, _⟩ | ⟨b', off', h, hbs, hc⟩
    · cases h
    · cases h; exact ⟨hbs, hc⟩
  obtain ⟨hbs, hc⟩ := hc
  have hcap := h.1
  have hs6 : s < 6400064 := by omega
  obtain ⟨i0, hi, hz0, hz1, hz2⟩ := info_parts Tryd.info44
  have HX : Hid (Num w (some ⟨b, off, none⟩) n c x) := h
  clear h
  go_enter Tryd.func51, Tryd.ntmps51
  go_wp2
  go_loop [6, 7, 13] (fun g u7 i => ∃ (k : Nat), k ≤ n ∧ i = .int .i64 k ∧ g = .bool (goneK x q 0 k)) (fun _ _ i => n - (intOf i).toNat)
  case atStart => exact ⟨0, Nat.zero_le _, rfl, by rw [goneK_zero]⟩
  case round =>
    obtain ⟨k, hk, rfl, rfl⟩ := hrel
    by_cases h8 : k < n
    · have h8i : (k : Int) < n := by omega
      by_cases hkq : k < q
      · have bx := hx k
        have hcx := hc k h8
        clear hc hx zx hi hz0 hz1 hz2
        have hkq' : (k : Int) < q := by omega
        by_cases hz : x k = 0
        · have hz' : (x k != 0) = false := by simp [hz]
          have hne : ((k : Int) == q) = false := by simp; omega
          have HG : Hid (goneK x q 0 (k + 1) = goneK x q 0 k) := goneK_lt0 hkq hz
          generalize goneK x q 0 k = z at *
          go_wp2
          go_round
          case rel => exact ⟨k + 1, by omega, by go_num, by rw [HG.out]⟩
          case measure => simp [intOf]; omega
        · have hz' : (x k != 0) = true := by simp [hz]
          have HG : Hid (goneK x q 0 (k + 1) = true) := goneK_lt1 hkq hz
          generalize goneK x q 0 k = z at *
          go_wp2
          go_round
          case rel => exact ⟨k + 1, by omega, by go_num, by rw [HG.out]⟩
          case measure => simp [intOf]; omega
      · have hkq' : ¬ (k : Int) < q := by omega
        by_cases hke : k = q
        · subst hke
          have bx := hx k
          have hcx := hc k h8
          have hand : bits BinOp.and IntKind.u64 (x k) 0 = 0 := by rw [u64_and _ _ bx.1 (by omega) (by decide) (by decide)]; simp
          have HG : Hid (goneK x k 0 (k + 1) = (goneK x k 0 k || decide (x k % 2 ^ 0 ≠ 0))) := goneK_eq x k 0
          clear hc hx zx hi hz0 hz1 hz2
          generalize goneK x k 0 k = z at *
          have hm : x k % 2 ^ 0 = 0 := by simp [Int.emod_one]
          go_wp2
          go_round
          case rel => exact ⟨k + 1, by omega, by go_num, by rw [HG.out]; simp⟩
          case measure => simp [intOf]; omega
        · have hcx := hc k h8
          have HG : Hid (goneK x q 0 (k + 1) = goneK x q 0 k) := goneK_gt (by omega)
          generalize goneK x q 0 k = z at *
          clear hc hx zx hi hz0 hz1 hz2
          have hne : ((k : Int) == q) = false := by simp; omega
          go_wp2
          go_round
          case rel => exact ⟨k + 1, by omega, by go_num, by rw [HG.out]⟩
          case measure => simp [intOf]; omega
    · obtain rfl : k = n := by omega
      have HGB : Hid (goneK x q 0 k = goneB x q 0) := goneK_end hqn
      generalize goneK x q 0 k = gz at *
      go_wp2
      go_loopw [8, 9, 10] (fun v i u10 wr => ∃ (j : Nat) (ao : Option Addr) (cp : Nat), j ≤ k - q ∧ i = .int .i64 ((q : Int) + j) ∧ v = .slice ao j cp ∧ wr.ownsRow w.heap.size 44 1 (.slice ao j cp) j (wl (shrW x q 0) j) ∧ Below w.heap.size w wr) (fun _ i _ _ => k + 1 - (intOf i).toNat)
      case atStart => exact ⟨0, none, 0, Nat.zero_le _, by go_num, rfl, World.ownsRow_nil _ _ _ _, Below.refl _ _⟩
      case round =>
        obtain ⟨j, ao, cp, hj, rfl, rfl, hown, hB⟩ := hrel
        by_cases hlt : q + j < k
        · have hlt' : (q : Int) + j < k := by omega
          have bx := hx (q + j)
          have b_y := hx (q + j + 1)
          have e1 : ((q : Int) + j).toNat = q + j := by omega
          have hcx : wr.cell? ⟨b, off + (q + j), none⟩ = some (.int .u64 (x (q + j))) := (hB.cell (p := ⟨b, off + (q + j), none⟩) hbs).trans (hc (q + j) hlt)
          have HW : Hid (Calls Tryd.prog 41 #[.slice (some ⟨b, off, none⟩) k c, .int .i64 ((q : Int) + j + 1)] wr fun e w' => e = .returned (.int .u64 (x (q + j + 1))) ∧ wr = w') := by
            have := word_any (some ⟨b, off, none⟩) k c (q + j + 1) x wr (HX.out.next hB)
            rw [show ((q + j + 1 : Nat) : Int) = (q : Int) + j + 1 by omega] at this
            exact this.mono fun _ _ h => ⟨h.1, h.2.symm⟩
          have hbw := hB.size
          have HO : Hid (wr.ownsRow w.heap.size 44 1 (.slice ao j cp) j (wl (shrW x q 0) j)) := hown
          have HVAL : Hid (shrW x q 0 j = x (q + j)) := by show _ = _; simp [shrW]
          have HOWN : (wr.alloc (.cells #[.int .u64 (x (q + j))] 44)).ownsRow w.heap.size 44 1 (.slice ao j cp) j (wl (shrW x q 0) j) := hown.alloc _
          have HNEWS : ∀ (p : Nat) (u : Value), [Value.int .u64 (x (q + j))][p]? = some u → (wr.alloc (.cells #[.int .u64 (x (q + j))] 44)).cell? ((⟨wr.heap.size, 0, none⟩ : Addr).add p) = some u := by
            intro p u hp
            match p, hp with
            | 0, hp => simp at hp; subst hp; simp [Addr.add]
          have HONE : ∀ u ∈ [Value.int .u64 (x (q + j))], u.oneCell' = true := by
            intro u hu; simp at hu; subst hu; rfl
          clear hc hx zx hown
          go_wp2_with (first | (at_builtin; refine wpList_append_lies _ rfl (.tmp 77) (.tmp 79) 22 rfl w.heap.size 44 i0 (.int .u64 0) 1 8 Tryd.underlying22 hi hz0 hz1 hz2 rfl (by decide) (.slice ao j cp) j (wl (shrW x q 0) j) rfl HOWN ⟨wr.heap.size, 0, none⟩ 1 1 [Value.int .u64 (x (q + j))] rfl rfl HNEWS HONE (by omega) (by unfold maxLen; omega) (by omega) (by simp; omega) (wr.heap.size + 1) (by simp) ?_; intro g cap w1 hown1 hgrow hat hlt1; clear HOWN HNEWS HONE) | (go_at_call 41; refine HW.out.mono ?_; rintro e w' ⟨rfl, rfl⟩))
          have hown2 : w1.ownsRow w.heap.size 44 1 (.slice (some ⟨g, 0, none⟩) (j + 1) cap) (j + 1) (wl (shrW x q 0) (j + 1)) := by
            rw [← HVAL.out, wl_succ] at hown1; exact hown1
          have HB2 : Below w.heap.size w w1 := (hB.alloc hbw _).grown hgrow (by simp; omega) (by
            intro p hp
            rcases ao with _ | ⟨bb, oo, sp⟩
            · cases hp
            · cases hp
              obtain ⟨_, h1⟩ := HO.out
              rcases h1 with ⟨h1, _⟩ | ⟨g', _, _, h1, h2, _⟩
              · cases h1
              · cases h1; exact h2)
          clear hown1 hgrow
          go_wp2
          go_roundw
          case rel => exact ⟨j + 1, some ⟨g, 0, none⟩, cap, by omega, by go_num, rfl, hown2, HB2⟩
          case measure => simp [intOf]; omega
        · have HZ : ∀ i, j ≤ i → shrW x q 0 i = 0 := fun i hi => shrW_zero zx q 0 i (by omega)
          have hT := trim_any ao j cp _ wr (by omega) (num_of_owns' (shrW_words hx q 0) HZ hown)
          have hle := sizeL_le (shrW x q 0) j
          have hlt' : ¬ (q : Int) + j < k := by omega
          clear hc hx zx hown HZ
          go_wp2_with (go_at_call 45; refine hT.mono ?_; rintro e w1 ⟨g, cap, rfl, hN, hB1⟩)
          go_ret2
          exact ⟨g, _, cap, by rw [HGB.out]; rfl, by omega, hN, hB.trans (hB1.mono hB.size)⟩

set_option maxHeartbeats 1000000 in
theorem rgt_p (b off n c q r : Nat) (s : Int) (x : Nat → Int) (w : World) (hn : n < 4000000000) (hq0 : q < 100000) (hr0 : r < 64) (hrp : 0 < r) (hq : s / 64 = q) (hr : s % 64 = r) (hs : 0 ≤ s) (hqn : q < n) (h : Num w (some ⟨b, off, none⟩) n c x) :
    Calls Tryd.prog 51 #[.slice (some ⟨b, off, none⟩) n c, .int .i64 s] w fun e w' => ∃ g k cap, e = .returned (.tuple #[.slice (some ⟨g, 0, none⟩) k cap, .bool (goneB x q r)]) ∧ k ≤ n ∧ Num w' (some ⟨g, 0, none⟩) k cap (shrW x q r) ∧ Below w.heap.size w w' := by
  have hx := h.2.2.1
  have zx := h.2.2.2.1
  have hc : b < w.heap.size ∧ ∀ i, i < n → w.cell? ⟨b, off + i, none⟩ = some (.int .u64 (x i)) := by
    rcases h.2.2.2.2 with ⟨h, _⟩ | ⟨b', off', h, hbs, hc⟩
    · cases h
    · cases h; exact ⟨hbs, hc⟩
  obtain ⟨hbs, hc⟩ := hc
  have hcap := h.1
  have hs6 : s < 6400064 := by omega
  obtain ⟨i0, hi, hz0, hz1, hz2⟩ := info_parts Tryd.info44
  have HX : Hid (Num w (some ⟨b, off, none⟩) n c x) := h
  clear h
  go_enter Tryd.func51, Tryd.ntmps51
  go_wp2
  go_loop [6, 7, 13] (fun g u7 i => ∃ (k : Nat), k ≤ n ∧ i = .int .i64 k ∧ g = .bool (goneK x q r k)) (fun _ _ i => n - (intOf i).toNat)
  case atStart => exact ⟨0, Nat.zero_le _, rfl, by rw [goneK_zero]⟩
  case round =>
    obtain ⟨k, hk, rfl, rfl⟩ := hrel
    by_cases h8 : k < n
    · have h8i : (k : Int) < n := by omega
      by_cases hkq : k < q
      · have bx := hx k
        have hcx := hc k h8
        clear hc hx zx hi hz0 hz1 hz2
        have hkq' : (k : Int) < q := by omega
        by_cases hz : x k = 0
        · have hz' : (x k != 0) = false := by simp [hz]
          have hne : ((k : Int) == q) = false := by simp; omega
          have HG : Hid (goneK x q r (k + 1) = goneK x q r k) := goneK_lt0 hkq hz
          generalize goneK x q r k = z at *
          go_wp2
          go_round
          case rel => exact ⟨k + 1, by omega, by go_num, by rw [HG.out]⟩
          case measure => simp [intOf]; omega
        · have hz' : (x k != 0) = true := by simp [hz]
          have HG : Hid (goneK x q r (k + 1) = true) := goneK_lt1 hkq hz
          generalize goneK x q r k = z at *
          go_wp2
          go_round
          case rel => exact ⟨k + 1, by omega, by go_num, by rw [HG.out]⟩
          case measure => simp [intOf]; omega
      · have hkq' : ¬ (k : Int) < q := by omega
        by_cases hke : k = q
        · subst hke
          have bx := hx k
          have hcx := hc k h8
          have hand := and_mask bx hr0
          have hpp := p2_pos r
          have hpl := p2_le hr0
          have HG : Hid (goneK x k r (k + 1) = (goneK x k r k || decide (x k % 2 ^ r ≠ 0))) := goneK_eq x k r
          clear hc hx zx hi hz0 hz1 hz2
          by_cases hm : x k % 2 ^ r = 0
          · rw [hm] at hand
            generalize goneK x k r k = z at *
            skip
            go_wp2
            go_round
            case rel => exact ⟨k + 1, by omega, by go_num, by rw [HG.out]; simp [hm]⟩
            case measure => simp [intOf]; omega
          · have hm' : (x k % 2 ^ r != 0) = true := by simp [hm]
            generalize goneK x k r k = z at *
            skip
            go_wp2
            go_round
            case rel => exact ⟨k + 1, by omega, by go_num, by rw [HG.out]; simp [hm]⟩
            case measure => simp [intOf]; omega
        · have hcx := hc k h8
          have HG : Hid (goneK x q r (k + 1) = goneK x q r k) := goneK_gt (by omega)
          generalize goneK x q r k = z at *
          clear hc hx zx hi hz0 hz1 hz2
          have hne : ((k : Int) == q) = false := by simp; omega
          go_wp2
          go_round
          case rel => exact ⟨k + 1, by omega, by go_num, by rw [HG.out]⟩
          case measure => simp [intOf]; omega
    · obtain rfl : k = n := by omega
      have HGB : Hid (goneK x q r k = goneB x q r) := goneK_end hqn
      generalize goneK x q r k = gz at *
      go_wp2
      go_loopw [8, 9, 10] (fun v i u10 wr => ∃ (j : Nat) (ao : Option Addr) (cp : Nat), j ≤ k - q ∧ i = .int .i64 ((q : Int) + j) ∧ v = .slice ao j cp ∧ wr.ownsRow w.heap.size 44 1 (.slice ao j cp) j (wl (shrW x q r) j) ∧ Below w.heap.size w wr) (fun _ i _ _ => k + 1 - (intOf i).toNat)
      case atStart => exact ⟨0, none, 0, Nat.zero_le _, by go_num, rfl, World.ownsRow_nil _ _ _ _, Below.refl _ _⟩
      case round =>
        obtain ⟨j, ao, cp, hj, rfl, rfl, hown, hB⟩ := hrel
        by_cases hlt : q + j < k
        · have hlt' : (q : Int) + j < k := by omega
          have bx := hx (q + j)
          have b_y := hx (q + j + 1)
          have e1 : ((q : Int) + j).toNat = q + j := by omega
          have hcx : wr.cell? ⟨b, off + (q + j), none⟩ = some (.int .u64 (x (q + j))) := (hB.cell (p := ⟨b, off + (q + j), none⟩) hbs).trans (hc (q + j) hlt)
          have HW : Hid (Calls Tryd.prog 41 #[.slice (some ⟨b, off, none⟩) k c, .int .i64 ((q : Int) + j + 1)] wr fun e w' => e = .returned (.int .u64 (x (q + j + 1))) ∧ wr = w') := by
            have := word_any (some ⟨b, off, none⟩) k c (q + j + 1) x wr (HX.out.next hB)
            rw [show ((q + j + 1 : Nat) : Int) = (q : Int) + j + 1 by omega] at this
            exact this.mono fun _ _ h => ⟨h.1, h.2.symm⟩
          have hbw := hB.size
          have HO : Hid (wr.ownsRow w.heap.size 44 1 (.slice ao j cp) j (wl (shrW x q r) j)) := hown
          have HVAL : Hid (shrW x q r j = bits BinOp.or IntKind.u64 (x (q + j) / 2 ^ r) (IntKind.u64.wrap (x (q + j + 1) * 2 ^ (64 - r)))) := by show _ = _; unfold shrW; rw [if_neg (by omega)]; rfl
          have HOWN : (wr.alloc (.cells #[.int .u64 (bits BinOp.or IntKind.u64 (x (q + j) / 2 ^ r) (IntKind.u64.wrap (x (q + j + 1) * 2 ^ (64 - r))))] 44)).ownsRow w.heap.size 44 1 (.slice ao j cp) j (wl (shrW x q r) j) := hown.alloc _
          have HNEWS : ∀ (p : Nat) (u : Value), [Value.int .u64 (bits BinOp.or IntKind.u64 (x (q + j) / 2 ^ r) (IntKind.u64.wrap (x (q + j + 1) * 2 ^ (64 - r))))][p]? = some u → (wr.alloc (.cells #[.int .u64 (bits BinOp.or IntKind.u64 (x (q + j) / 2 ^ r) (IntKind.u64.wrap (x (q + j + 1) * 2 ^ (64 - r))))] 44)).cell? ((⟨wr.heap.size, 0, none⟩ : Addr).add p) = some u := by
            intro p u hp
            match p, hp with
            | 0, hp => simp at hp; subst hp; simp [Addr.add]
          have HONE : ∀ u ∈ [Value.int .u64 (bits BinOp.or IntKind.u64 (x (q + j) / 2 ^ r) (IntKind.u64.wrap (x (q + j + 1) * 2 ^ (64 - r))))], u.oneCell' = true := by
            intro u hu; simp at hu; subst hu; rfl
          clear hc hx zx hown
          go_wp2_with (first | (at_builtin; refine wpList_append_lies _ rfl (.tmp 77) (.tmp 79) 22 rfl w.heap.size 44 i0 (.int .u64 0) 1 8 Tryd.underlying22 hi hz0 hz1 hz2 rfl (by decide) (.slice ao j cp) j (wl (shrW x q r) j) rfl HOWN ⟨wr.heap.size, 0, none⟩ 1 1 [Value.int .u64 (bits BinOp.or IntKind.u64 (x (q + j) / 2 ^ r) (IntKind.u64.wrap (x (q + j + 1) * 2 ^ (64 - r))))] rfl rfl HNEWS HONE (by omega) (by unfold maxLen; omega) (by omega) (by simp; omega) (wr.heap.size + 1) (by simp) ?_; intro g cap w1 hown1 hgrow hat hlt1; clear HOWN HNEWS HONE) | (go_at_call 41; refine HW.out.mono ?_; rintro e w' ⟨rfl, rfl⟩))
          have hown2 : w1.ownsRow w.heap.size 44 1 (.slice (some ⟨g, 0, none⟩) (j + 1) cap) (j + 1) (wl (shrW x q r) (j + 1)) := by
            rw [← HVAL.out, wl_succ] at hown1; exact hown1
          have HB2 : Below w.heap.size w w1 := (hB.alloc hbw _).grown hgrow (by simp; omega) (by
            intro p hp
            rcases ao with _ | ⟨bb, oo, sp⟩
            · cases hp
            · cases hp
              obtain ⟨_, h1⟩ := HO.out
              rcases h1 with ⟨h1, _⟩ | ⟨g', _, _, h1, h2, _⟩
              · cases h1
              · cases h1; exact h2)
          clear hown1 hgrow
          go_wp2
          go_roundw
          case rel => exact ⟨j + 1, some ⟨g, 0, none⟩, cap, by omega, by go_num, rfl, hown2, HB2⟩
          case measure => simp [intOf]; omega
        · have HZ : ∀ i, j ≤ i → shrW x q r i = 0 := fun i hi => shrW_zero zx q r i (by omega)
          have hT := trim_any ao j cp _ wr (by omega) (num_of_owns' (shrW_words hx q r) HZ hown)
          have hle := sizeL_le (shrW x q r) j
          have hlt' : ¬ (q : Int) + j < k := by omega
          clear hc hx zx hown HZ
          go_wp2_with (go_at_call 45; refine hT.mono ?_; rintro e w1 ⟨g, cap, rfl, hN, hB1⟩)
          go_ret2
          exact ⟨g, _, cap, by rw [HGB.out]; rfl, by omega, hN, hB.trans (hB1.mono hB.size)⟩
end Go.Proofs.YtkbplchgaploeaaDoor
