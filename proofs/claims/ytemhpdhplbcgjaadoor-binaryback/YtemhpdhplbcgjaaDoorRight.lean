/-
  What the document's own Right does: a contract.
-/
import Derived.Test.YtemhpdhplbcgjaaDoorLeft
set_option linter.unusedVariables false
set_option linter.unusedSimpArgs false
set_option maxRecDepth 20000
namespace Go.Proofs.YtemhpdhplbcgjaaDoor
open Go.RowKit

/-- the words of x divided by 2^(64 q + r) -/
def shrW (x : Nat → Int) (q r j : Nat) : Int := if r = 0 then x (q + j) else orW (x (q + j) / 2 ^ r) (IntKind.u64.wrap (x (q + j + 1) * 2 ^ (64 - r)))
theorem shrW_words {x : Nat → Int} (hx : Words x) (q r : Nat) : Words (shrW x q r) := fun j => by
  unfold shrW; split
  · exact hx _
  · exact orW_word _ _ (div_word _ _ (hx _)) (wrap_word _)
theorem shrW_zero {x : Nat → Int} {n : Nat} (zx : ∀ i, n ≤ i → x i = 0) (q r j : Nat) (hj : n ≤ q + j) : shrW x q r j = 0 := by
  unfold shrW; split
  · exact zx _ hj
  · rw [zx _ hj, zx (q + j + 1) (by omega), Int.zero_mul, Int.zero_ediv, wrap_id 0 (by decide), orW_zero 0 (by decide)]
def wl (f : Nat → Int) (k : Nat) : List Value := (List.range k).map fun i => Value.int .u64 (f i)
theorem wl_succ (f : Nat → Int) (k : Nat) : wl f k ++ [Value.int .u64 (f k)] = wl f (k + 1) := by simp [wl, List.range_succ]
theorem num_of_owns' {w' : World} {ao : Option Addr} {k cap base : Nat} {x : Nat → Int} (hx : Words x) (hz : ∀ i, k ≤ i → x i = 0) (h : w'.ownsRow base 22 1 (.slice ao k cap) k (wl x k)) : Num w' ao k cap x := by
  have h0 := h
  obtain ⟨hl, h1⟩ := h0
  rcases h1 with ⟨h1, h2⟩ | ⟨g, cap', cur, he, hb, hh, _⟩
  · cases h1
    exact ⟨Nat.le_refl _, by unfold maxLen; omega, hx, hz, Or.inl ⟨rfl, rfl⟩⟩
  · cases he
    exact num_of_owns (w := w') hx hz h (by
      rcases Nat.lt_or_ge g w'.heap.size with h3 | h3
      · exact h3
      · rw [Array.getElem?_eq_none h3] at hh; cases hh)

set_option maxHeartbeats 1000000 in
theorem right_z (b off n c q : Nat) (s : Int) (x : Nat → Int) (w : World) (hn : n < 4000000000) (hq0 : q < 100000)  (hq : s / 64 = q) (hr : s % 64 = 0) (hs : 0 ≤ s) (h : Num w (some ⟨b, off, none⟩) n c x) :
    Calls Tryd.prog 51 #[.slice (some ⟨b, off, none⟩) n c, .int .i64 s] w fun e w' => ∃ g k cap z, e = .returned (.tuple #[.slice (some ⟨g, 0, none⟩) k cap, .bool z]) ∧ k ≤ n ∧ Num w' (some ⟨g, 0, none⟩) k cap (shrW x q 0) ∧ Below w.heap.size w w' := by
  have hx := h.2.2.1
  have zx := h.2.2.2.1
  have hc : b < w.heap.size ∧ ∀ i, i < n → w.cell? ⟨b, off + i, none⟩ = some (.int .u64 (x i)) := by
    rcases h.2.2.2.2 with ⟨h, _⟩ | ⟨b', off', h, hbs, hc⟩
    · cases h
    · cases h; exact ⟨hbs, hc⟩
  obtain ⟨hbs, hc⟩ := hc
  have hcap := h.1
  have hs6 : s < 6400064 := by omega
  obtain ⟨i0, hi, hz0, hz1, hz2⟩ := info_parts Tryd.info22
  have HX : Hid (Num w (some ⟨b, off, none⟩) n c x) := h
  clear h
  go_enter Tryd.func51, Tryd.ntmps51
  go_wp2
  go_loop [6, 7, 13] (fun g u7 i => ∃ (k : Nat) (z : Bool), k ≤ n ∧ i = .int .i64 k ∧ g = .bool z) (fun _ _ i => n - (intOf i).toNat)
  case atStart => exact ⟨0, false, Nat.zero_le _, rfl, rfl⟩
  case round =>
    obtain ⟨k, z, hk, rfl, rfl⟩ := hrel
    by_cases h8 : k < n
    · have h8i : (k : Int) < n := by omega
      by_cases hkq : k < q
      · have bx := hx k
        have hcx := hc k h8
        clear hc hx zx hi hz0 hz1 hz2
        have hkq' : (k : Int) < q := by omega
        by_cases hz : x k = 0
        · have hz' : (x k != 0) = false := by simp [hz]
          have hne : ((k : Int) == q) = false := by simp; omega
          go_wp2
          go_round
          case rel => exact ⟨k + 1, z, by omega, by go_num, rfl⟩
          case measure => simp [intOf]; omega
        · have hz' : (x k != 0) = true := by simp [hz]
          go_wp2
          go_round
          case rel => exact ⟨k + 1, true, by omega, by go_num, rfl⟩
          case measure => simp [intOf]; omega
      · have hkq' : ¬ (k : Int) < q := by omega
        by_cases hke : k = q
        · subst hke
          have bx := hx k
          have hcx := hc k h8
          clear hc hx zx hi hz0 hz1 hz2
          go_wp2
          all_goals
            go_round
            case rel => first | exact ⟨k + 1, true, by omega, by go_num, rfl⟩ | exact ⟨k + 1, z, by omega, by go_num, rfl⟩
            case measure => simp [intOf]; omega
        · have hcx := hc k h8
          clear hc hx zx hi hz0 hz1 hz2
          have hne : ((k : Int) == q) = false := by simp; omega
          go_wp2
          go_round
          case rel => exact ⟨k + 1, z, by omega, by go_num, rfl⟩
          case measure => simp [intOf]; omega
    · obtain rfl : k = n := by omega
      go_wp2
      go_loopw [8, 9, 10] (fun v i u10 wr => ∃ (j : Nat) (ao : Option Addr) (cp : Nat), j ≤ k - q ∧ i = .int .i64 ((q : Int) + j) ∧ v = .slice ao j cp ∧ wr.ownsRow w.heap.size 22 1 (.slice ao j cp) j (wl (shrW x q 0) j) ∧ Below w.heap.size w wr) (fun _ i _ _ => k + 1 - (intOf i).toNat)
      case atStart => exact ⟨0, none, 0, Nat.zero_le _, by go_num, rfl, World.ownsRow_nil _ _ _ _, Below.refl _ _⟩
      case round =>
        obtain ⟨j, ao, cp, hj, rfl, rfl, hown, hB⟩ := hrel
        by_cases hlt : q + j < k
        · have hlt' : (q : Int) + j < k := by omega
          have bx := hx (q + j)
          have b_y := hx (q + j + 1)
          have e1 : ((q : Int) + j).toNat = q + j := by omega
          have hcx : wr.cell? ⟨b, off + (q + j), none⟩ = some (.int .u64 (x (q + j))) := (hB.cell (p := ⟨b, off + (q + j), none⟩) hbs).trans (hc (q + j) hlt)
          have HW : Hid (Calls Tryd.prog 53 #[.slice (some ⟨b, off, none⟩) k c, .int .i64 ((q : Int) + j + 1)] wr fun e w' => e = .returned (.int .u64 (x (q + j + 1))) ∧ wr = w') := by
            have := word_any (some ⟨b, off, none⟩) k c (q + j + 1) x wr (HX.out.next hB)
            rw [show ((q + j + 1 : Nat) : Int) = (q : Int) + j + 1 by omega] at this
            exact this.mono fun _ _ h => ⟨h.1, h.2.symm⟩
          have hbw := hB.size
          have HO : Hid (wr.ownsRow w.heap.size 22 1 (.slice ao j cp) j (wl (shrW x q 0) j)) := hown
          have HVAL : Hid (shrW x q 0 j = x (q + j)) := by show _ = _; simp [shrW]
          have HOWN : (wr.alloc (.cells #[.int .u64 (x (q + j))] 22)).ownsRow w.heap.size 22 1 (.slice ao j cp) j (wl (shrW x q 0) j) := hown.alloc _
          have HNEWS : ∀ (p : Nat) (u : Value), [Value.int .u64 (x (q + j))][p]? = some u → (wr.alloc (.cells #[.int .u64 (x (q + j))] 22)).cell? ((⟨wr.heap.size, 0, none⟩ : Addr).add p) = some u := by
            intro p u hp
            match p, hp with
            | 0, hp => simp at hp; subst hp; simp [Addr.add]
          have HONE : ∀ u ∈ [Value.int .u64 (x (q + j))], u.oneCell' = true := by
            intro u hu; simp at hu; subst hu; rfl
          clear hc hx zx hown
          go_wp2_with (first | (at_builtin; refine wpList_append_lies _ rfl (.tmp 77) (.tmp 79) 55 rfl w.heap.size 22 i0 (.int .u64 0) 1 8 Tryd.underlying55 hi hz0 hz1 hz2 rfl (by decide) (.slice ao j cp) j (wl (shrW x q 0) j) rfl HOWN ⟨wr.heap.size, 0, none⟩ 1 1 [Value.int .u64 (x (q + j))] rfl rfl HNEWS HONE (by omega) (by unfold maxLen; omega) (by omega) (by simp; omega) (wr.heap.size + 1) (by simp) ?_; intro g cap w1 hown1 hgrow hat hlt1; clear HOWN HNEWS HONE) | (go_at_call 53; refine HW.out.mono ?_; rintro e w' ⟨rfl, rfl⟩))
          have hown2 : w1.ownsRow w.heap.size 22 1 (.slice (some ⟨g, 0, none⟩) (j + 1) cap) (j + 1) (wl (shrW x q 0) (j + 1)) := by
            rw [← HVAL.out, wl_succ] at hown1; exact hown1
          have HB2 : Below w.heap.size w w1 := (hB.alloc hbw _).grown hgrow (by simp; omega) (by
            intro p hp
            rcases ao with _ | ⟨bb, oo, sp⟩
            · cases hp
            · cases hp
              obtain ⟨_, h1⟩ := HO.out
              rcases h1 with ⟨h1, _⟩ | ⟨g', _, _, h1, h2, _⟩
              · cases h1
              · cases h1; exact h2)
          clear hown1 hgrow
          go_wp2
          go_roundw
          case rel => exact ⟨j + 1, some ⟨g, 0, none⟩, cap, by omega, by go_num, rfl, hown2, HB2⟩
          case measure => simp [intOf]; omega
        · have HZ : ∀ i, j ≤ i → shrW x q 0 i = 0 := fun i hi => shrW_zero zx q 0 i (by omega)
          have hT := trim_any ao j cp _ wr (by omega) (num_of_owns' (shrW_words hx q 0) HZ hown)
          have hle := sizeL_le (shrW x q 0) j
          have hlt' : ¬ (q : Int) + j < k := by omega
          clear hc hx zx hown HZ
          go_wp2_with (go_at_call 54; refine hT.mono ?_; rintro e w1 ⟨g, cap, rfl, hN, hB1⟩)
          go_ret2
          exact ⟨g, _, cap, _, rfl, by omega, hN, hB.trans (hB1.mono hB.size)⟩

set_option maxHeartbeats 1000000 in
theorem right_p (b off n c q r : Nat) (s : Int) (x : Nat → Int) (w : World) (hn : n < 4000000000) (hq0 : q < 100000) (hr0 : r < 64) (hrp : 0 < r) (hq : s / 64 = q) (hr : s % 64 = r) (hs : 0 ≤ s) (h : Num w (some ⟨b, off, none⟩) n c x) :
    Calls Tryd.prog 51 #[.slice (some ⟨b, off, none⟩) n c, .int .i64 s] w fun e w' => ∃ g k cap z, e = .returned (.tuple #[.slice (some ⟨g, 0, none⟩) k cap, .bool z]) ∧ k ≤ n ∧ Num w' (some ⟨g, 0, none⟩) k cap (shrW x q r) ∧ Below w.heap.size w w' := by
  have hx := h.2.2.1
  have zx := h.2.2.2.1
  have hc : b < w.heap.size ∧ ∀ i, i < n → w.cell? ⟨b, off + i, none⟩ = some (.int .u64 (x i)) := by
    rcases h.2.2.2.2 with ⟨h, _⟩ | ⟨b', off', h, hbs, hc⟩
    · cases h
    · cases h; exact ⟨hbs, hc⟩
  obtain ⟨hbs, hc⟩ := hc
  have hcap := h.1
  have hs6 : s < 6400064 := by omega
  obtain ⟨i0, hi, hz0, hz1, hz2⟩ := info_parts Tryd.info22
  have HX : Hid (Num w (some ⟨b, off, none⟩) n c x) := h
  clear h
  go_enter Tryd.func51, Tryd.ntmps51
  go_wp2
  go_loop [6, 7, 13] (fun g u7 i => ∃ (k : Nat) (z : Bool), k ≤ n ∧ i = .int .i64 k ∧ g = .bool z) (fun _ _ i => n - (intOf i).toNat)
  case atStart => exact ⟨0, false, Nat.zero_le _, rfl, rfl⟩
  case round =>
    obtain ⟨k, z, hk, rfl, rfl⟩ := hrel
    by_cases h8 : k < n
    · have h8i : (k : Int) < n := by omega
      by_cases hkq : k < q
      · have bx := hx k
        have hcx := hc k h8
        clear hc hx zx hi hz0 hz1 hz2
        have hkq' : (k : Int) < q := by omega
        by_cases hz : x k = 0
        · have hz' : (x k != 0) = false := by simp [hz]
          have hne : ((k : Int) == q) = false := by simp; omega
          go_wp2
          go_round
          case rel => exact ⟨k + 1, z, by omega, by go_num, rfl⟩
          case measure => simp [intOf]; omega
        · have hz' : (x k != 0) = true := by simp [hz]
          go_wp2
          go_round
          case rel => exact ⟨k + 1, true, by omega, by go_num, rfl⟩
          case measure => simp [intOf]; omega
      · have hkq' : ¬ (k : Int) < q := by omega
        by_cases hke : k = q
        · subst hke
          have bx := hx k
          have hcx := hc k h8
          clear hc hx zx hi hz0 hz1 hz2
          go_wp2
          all_goals
            go_round
            case rel => first | exact ⟨k + 1, true, by omega, by go_num, rfl⟩ | exact ⟨k + 1, z, by omega, by go_num, rfl⟩
            case measure => simp [intOf]; omega
        · have hcx := hc k h8
          clear hc hx zx hi hz0 hz1 hz2
          have hne : ((k : Int) == q) = false := by simp; omega
          go_wp2
          go_round
          case rel => exact ⟨k + 1, z, by omega, by go_num, rfl⟩
          case measure => simp [intOf]; omega
    · obtain rfl : k = n := by omega
      go_wp2
      go_loopw [8, 9, 10] (fun v i u10 wr => ∃ (j : Nat) (ao : Option Addr) (cp : Nat), j ≤ k - q ∧ i = .int .i64 ((q : Int) + j) ∧ v = .slice ao j cp ∧ wr.ownsRow w.heap.size 22 1 (.slice ao j cp) j (wl (shrW x q r) j) ∧ Below w.heap.size w wr) (fun _ i _ _ => k + 1 - (intOf i).toNat)
      case atStart => exact ⟨0, none, 0, Nat.zero_le _, by go_num, rfl, World.ownsRow_nil _ _ _ _, Below.refl _ _⟩
      case round =>
        obtain ⟨j, ao, cp, hj, rfl, rfl, hown, hB⟩ := hrel
        by_cases hlt : q + j < k
        · have hlt' : (q : Int) + j < k := by omega
          have bx := hx (q + j)
          have b_y := hx (q + j + 1)
          have e1 : ((q : Int) + j).toNat = q + j := by omega
          have hcx : wr.cell? ⟨b, off + (q + j), none⟩ = some (.int .u64 (x (q + j))) := (hB.cell (p := ⟨b, off + (q + j), none⟩) hbs).trans (hc (q + j) hlt)
          have HW : Hid (Calls Tryd.prog 53 #[.slice (some ⟨b, off, none⟩) k c, .int .i64 ((q : Int) + j + 1)] wr fun e w' => e = .returned (.int .u64 (x (q + j + 1))) ∧ wr = w') := by
            have := word_any (some ⟨b, off, none⟩) k c (q + j + 1) x wr (HX.out.next hB)
            rw [show ((q + j + 1 : Nat) : Int) = (q : Int) + j + 1 by omega] at this
            exact this.mono fun _ _ h => ⟨h.1, h.2.symm⟩
          have hbw := hB.size
          have HO : Hid (wr.ownsRow w.heap.size 22 1 (.slice ao j cp) j (wl (shrW x q r) j)) := hown
          have HVAL : Hid (shrW x q r j = bits BinOp.or IntKind.u64 (x (q + j) / 2 ^ r) (IntKind.u64.wrap (x (q + j + 1) * 2 ^ (64 - r)))) := by show _ = _; unfold shrW; rw [if_neg (by omega)]; rfl
          have HOWN : (wr.alloc (.cells #[.int .u64 (bits BinOp.or IntKind.u64 (x (q + j) / 2 ^ r) (IntKind.u64.wrap (x (q + j + 1) * 2 ^ (64 - r))))] 22)).ownsRow w.heap.size 22 1 (.slice ao j cp) j (wl (shrW x q r) j) := hown.alloc _
          have HNEWS : ∀ (p : Nat) (u : Value), [Value.int .u64 (bits BinOp.or IntKind.u64 (x (q + j) / 2 ^ r) (IntKind.u64.wrap (x (q + j + 1) * 2 ^ (64 - r))))][p]? = some u → (wr.alloc (.cells #[.int .u64 (bits BinOp.or IntKind.u64 (x (q + j) / 2 ^ r) (IntKind.u64.wrap (x (q + j + 1) * 2 ^ (64 - r))))] 22)).cell? ((⟨wr.heap.size, 0, none⟩ : Addr).add p) = some u := by
            intro p u hp
            match p, hp with
            | 0, hp => simp at hp; subst hp; simp [Addr.add]
          have HONE : ∀ u ∈ [Value.int .u64 (bits BinOp.or IntKind.u64 (x (q + j) / 2 ^ r) (IntKind.u64.wrap (x (q + j + 1) * 2 ^ (64 - r))))], u.oneCell' = true := by
            intro u hu; simp at hu; subst hu; rfl
          clear hc hx zx hown
          go_wp2_with (first | (at_builtin; refine wpList_append_lies _ rfl (.tmp 77) (.tmp 79) 55 rfl w.heap.size 22 i0 (.int .u64 0) 1 8 Tryd.underlying55 hi hz0 hz1 hz2 rfl (by decide) (.slice ao j cp) j (wl (shrW x q r) j) rfl HOWN ⟨wr.heap.size, 0, none⟩ 1 1 [Value.int .u64 (bits BinOp.or IntKind.u64 (x (q + j) / 2 ^ r) (IntKind.u64.wrap (x (q + j + 1) * 2 ^ (64 - r))))] rfl rfl HNEWS HONE (by omega) (by unfold maxLen; omega) (by omega) (by simp; omega) (wr.heap.size + 1) (by simp) ?_; intro g cap w1 hown1 hgrow hat hlt1; clear HOWN HNEWS HONE) | (go_at_call 53; refine HW.out.mono ?_; rintro e w' ⟨rfl, rfl⟩))
          have hown2 : w1.ownsRow w.heap.size 22 1 (.slice (some ⟨g, 0, none⟩) (j + 1) cap) (j + 1) (wl (shrW x q r) (j + 1)) := by
            rw [← HVAL.out, wl_succ] at hown1; exact hown1
          have HB2 : Below w.heap.size w w1 := (hB.alloc hbw _).grown hgrow (by simp; omega) (by
            intro p hp
            rcases ao with _ | ⟨bb, oo, sp⟩
            · cases hp
            · cases hp
              obtain ⟨_, h1⟩ := HO.out
              rcases h1 with ⟨h1, _⟩ | ⟨g', _, _, h1, h2, _⟩
              · cases h1
              · cases h1; exact h2)
          clear hown1 hgrow
          go_wp2
          go_roundw
          case rel => exact ⟨j + 1, some ⟨g, 0, none⟩, cap, by omega, by go_num, rfl, hown2, HB2⟩
          case measure => simp [intOf]; omega
        · have HZ : ∀ i, j ≤ i → shrW x q r i = 0 := fun i hi => shrW_zero zx q r i (by omega)
          have hT := trim_any ao j cp _ wr (by omega) (num_of_owns' (shrW_words hx q r) HZ hown)
          have hle := sizeL_le (shrW x q r) j
          have hlt' : ¬ (q : Int) + j < k := by omega
          clear hc hx zx hown HZ
          go_wp2_with (go_at_call 54; refine hT.mono ?_; rintro e w1 ⟨g, cap, rfl, hN, hB1⟩)
          go_ret2
          exact ⟨g, _, cap, _, rfl, by omega, hN, hB.trans (hB1.mono hB.size)⟩
end Go.Proofs.YtemhpdhplbcgjaaDoor
