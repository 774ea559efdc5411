/-
  Texts that the proof leans on, joined: Nsr, Dlm, Dgs, Dst.
-/
import Derived.Test.YtkefmapcaggefaaDoorJ4
set_option linter.unusedVariables false
set_option linter.unusedSimpArgs false
set_option maxRecDepth 20000
set_option linter.unusedSectionVars false
namespace Go.Proofs.YtkefmapcaggefaaDoor
open Go.RowKit
theorem sizeL_more {x : Nat → Int} {n : Nat} (hz : ∀ i, n ≤ i → x i = 0) : ∀ m, n ≤ m → sizeL x m = sizeL x n
  | 0, h => by have : n = 0 := by omega
               subst this; rfl
  | m + 1, h => by
    by_cases e : n = m + 1
    · subst e; rfl
    · rw [show sizeL x (m + 1) = sizeL x m by simp [sizeL, hz m (by omega)]]
      exact sizeL_more hz m (by omega)

/-- what a word sends down into the one below it -/
def dnW (y : Int) (r : Nat) : Int := IntKind.u64.wrap (y * 2 ^ (64 - r))
theorem shr_or {y : Nat → Int} (hy : Words y) {r : Nat} (hr : r < 64) (q i : Nat) : orW (y (q + i) / 2 ^ r) (dnW (y (q + i + 1)) r) = shrW y q r i := by
  unfold shrW dnW
  by_cases h : r = 0
  · subst h
    rw [if_pos rfl, wrap_mod]
    have e : y (q + i + 1) * 2 ^ (64 - 0) % 18446744073709551616 = 0 := Int.mul_emod_left _ _
    rw [e, Int.pow_zero, Int.ediv_one, orW_zero _ (hy _)]
  · rw [if_neg h]
/-- the words of z, those from k on (and below m) y's, shifted down by r -/
def dnZ (z y : Nat → Int) (r m k j : Nat) : Int := if k ≤ j ∧ j < m then shrW y 0 r j else z j

set_option maxHeartbeats 1000000 in
theorem shiftDown_any (g N m c c' r : Nat) (a' : Option Addr) (z y : Nat → Int) (w : World) (hm : m ≤ N) (hN : N < 4294967296) (hr : r < 64) (h : Own g N z w) (h' : Num w a' m c' y) (hA : Apart a' g) :
    Calls Tryd.prog 65 #[.slice (some ⟨g, 0, none⟩) m c, .slice a' m c', .int .i64 r] w fun e w' => e = .returned (.tuple #[]) ∧ Own g N (dnZ z y r m 0) w' ∧ Upd g w w' := by
  have hy := h'.2.2.1
  have hri : (r : Int) < 64 := by omega
  have e64 : ((64 : Int) - r).toNat = 64 - r := by omega
  have hk0 := h'.2.2.2.1 m (Nat.le_refl _)
  go_enter Tryd.func65, Tryd.ntmps65
  go_wp2
  go_loopw [6, 7] (fun cv i wr => ∃ (k : Nat), k ≤ m ∧ i = .int .i64 ((k : Int) - 1) ∧ cv = .int .u64 (dnW (y k) r) ∧ Own g N (dnZ z y r m k) wr ∧ Upd g w wr) (fun _ i _ => (intOf i + 1).toNat)
  case atStart => exact ⟨m, Nat.le_refl _, by go_num, by rw [hk0]; unfold dnW; rw [Int.zero_mul, wrap_id 0 (by decide)], h.congr fun i _ => by unfold dnZ; rw [if_neg (by omega)], Upd.refl _ _⟩
  case round =>
    obtain ⟨k, hk, rfl, rfl, hO, hU⟩ := hrel
    have hpb : 0 ≤ dnW (y k) r ∧ dnW (y k) r ≤ 18446744073709551615 := wrap_word _
    by_cases h0 : k = 0
    · subst h0
      have HO : Hid (Own g N (dnZ z y r m 0) wr) := hO
      have HU : Hid (Upd g w wr) := hU
      clear hO hU h h' hA hy hk0
      go_wp2
      go_end0
      exact ⟨rfl, HO.out, HU.out⟩
    · obtain ⟨j, rfl⟩ : ∃ j, k = j + 1 := ⟨k - 1, by omega⟩
      have ej : ((j + 1 : Nat) : Int) - 1 = j := by omega
      rw [ej]
      have hjm : (j : Int) < m := by omega
      obtain ⟨b, off', rfl, hb, hc⟩ := (hU.num' hA h').cells (by omega)
      have hcj := hc j (by omega)
      have hco : ∃ u, wr.cell? ⟨g, j, none⟩ = some (.int .u64 u) := ⟨_, hO.cell j (by omega)⟩
      obtain ⟨u, hco⟩ := hco
      have hfo := hO.frozen j
      have b_y := hy j
      have hbg : b ≠ g := hA _ rfl
      have hcj2 : ∀ v, (wr.setCell ⟨g, j, none⟩ v).cell? ⟨b, off' + j, none⟩ = some (.int .u64 (y j)) := fun v => (World.cell?_of_block (w := wr) (a := ⟨b, off' + j, none⟩) (Below.heap_setCell wr ⟨g, j, none⟩ v b hbg)).trans hcj
      have HS : Hid (bits BinOp.or IntKind.u64 (y j / 2 ^ r) (dnW (y (j + 1)) r) = shrW y 0 r j) := by
        show _ = _
        have := shr_or hy hr 0 j
        rw [Nat.zero_add] at this
        exact this
      have HO : Hid (Own g N (dnZ z y r m j) (wr.setCell ⟨g, j, none⟩ (.int .u64 (shrW y 0 r j)))) := (hO.set j _).congr fun i _ => by
        unfold dnZ
        by_cases e : i = j
        · subst e; rw [if_pos rfl, if_pos (by omega)]
        · rw [if_neg e]
          by_cases e2 : j + 1 ≤ i ∧ i < m
          · rw [if_pos e2, if_pos (by omega)]
          · rw [if_neg e2, if_neg (by omega)]
      have HU : Hid (Upd g w (wr.setCell ⟨g, j, none⟩ (.int .u64 (shrW y 0 r j)))) := hU.set j _
      rw [← HS.out] at HO HU
      have HDW : Hid (IntKind.u64.wrap (y j * 2 ^ (64 - r)) = dnW (y j) r) := rfl
      clear hO hU hc h h' hA hy hk0 HS ej
      generalize dnW (y (j + 1)) r = pv at *
      go_wp2
      go_roundw
      case rel => exact ⟨j, by omega, by go_num, by rw [← HDW.out], HO.out, HU.out⟩
      case measure => simp [intOf]

theorem Num.drop {w : World} {b off n c q : Nat} {x : Nat → Int} (h : Num w (some ⟨b, off, none⟩) n c x) (hq : q ≤ n) : Num w (some ⟨b, off + q, none⟩) (n - q) (c - q) (fun i => x (q + i)) := by
  obtain ⟨h1, h2, h3, h4, h5⟩ := h
  refine ⟨by omega, by omega, fun i => h3 (q + i), fun i hi => h4 (q + i) (by omega), ?_⟩
  rcases h5 with ⟨h5, _⟩ | ⟨b', off', h6, h7, h8⟩
  · cases h5
  · cases h6
    exact Or.inr ⟨b, off + q, rfl, h7, fun i hi => by have := h8 (q + i) (by omega); rw [Nat.add_assoc]; exact this⟩
theorem Num.take {w : World} {b off n c q : Nat} {x : Nat → Int} (h : Num w (some ⟨b, off, none⟩) n c x) (hq : q ≤ n) : Num w (some ⟨b, off, none⟩) q c (segW x 0 q) := by
  obtain ⟨h1, h2, h3, h4, h5⟩ := h
  refine ⟨by omega, by omega, segW_words h3 0 q, fun i hi => segW_zero x 0 q i hi, ?_⟩
  rcases h5 with ⟨h5, _⟩ | ⟨b', off', h6, h7, h8⟩
  · cases h5
  · cases h6
    exact Or.inr ⟨b, off, rfl, h7, fun i hi => by rw [h8 i (by omega), segW_lt x 0 q i hi, Nat.zero_add]⟩
theorem out_test {y : Int} {r : Nat} (hr : r < 64) : (IntKind.u64.wrap (y * 2 ^ (64 - r)) != 0) = decide (y % 2 ^ r ≠ 0) := by
  have hp := p2_pos (64 - r)
  have e : y * 2 ^ (64 - r) % 18446744073709551616 = y % 2 ^ r * 2 ^ (64 - r) := by
    have h1 := Int.mul_emod_mul_of_pos y (2 ^ r) hp
    have h2 := p2_split (show r ≤ 64 by omega)
    rw [← h2, Int.mul_comm y, h1, Int.mul_comm]
  rw [wrap_mod, e]
  by_cases h : y % 2 ^ r = 0
  · simp [h]
  · have : y % 2 ^ r * 2 ^ (64 - r) ≠ 0 := Int.mul_ne_zero h (by omega)
    simp [h, this]

set_option maxRecDepth 20000 in
set_option maxHeartbeats 2000000 in
theorem nshr_any (a : Option Addr) (n c q r : Nat) (x : Nat → Int) (d : Int) (w : World) (hn : n < 4000000000) (h : Num w a n c x) (hd : 1 ≤ d) (hq : d / 64 = q) (hr : d % 64 = r) (hqs : q < sizeL x n) :
    Calls Tryd.prog 55 #[.slice a n c, .int .i64 d] w fun e w' => ∃ g k cap, e = .returned (.tuple #[.slice (some ⟨g, 0, none⟩) k cap, .bool (goneB x q r)]) ∧ k ≤ n ∧ Num w' (some ⟨g, 0, none⟩) k cap (shrW x q r) ∧ sizeL (shrW x q r) k = k ∧ Below w.heap.size w w' := by
  have hb := bare_any a n c x w (by omega) h
  have hx := h.2.2.1
  have hle := sizeL_le x n
  have hN := h.bare
  generalize sizeL x n = s at *
  clear h
  have hr64 : r < 64 := by omega
  obtain ⟨b, off, rfl, hbs, hc⟩ := hN.cells (by omega)
  have hcq := hc q hqs
  have bq := hx q
  have hcap := hN.1
  have ht := out_test (y := x q) hr64
  have e64 : ((64 : Int) - r).toNat = 64 - r := by omega
  have hr64i : (r : Int) < 64 := by omega
  have hbt := bare_any (some ⟨b, off, none⟩) q c (segW x 0 q) w (by omega) (hN.take (by omega))
  have es : sizeL (segW x 0 q) q = sizeL x q := sizeL_congr q fun i hi => by rw [segW_lt x 0 q i hi, Nat.zero_add]
  rw [es] at hbt
  have hsq := sizeL_le x q
  obtain ⟨N, hNs⟩ : ∃ N, s - q = N := ⟨_, rfl⟩
  have hNi : (s : Int) - q = N := by omega
  have hmk := fun w => make_any ((s : Int) - q) N hNi (by omega) w
  have hA := apart_of (hN.drop (q := q) (by omega))
  have hO := Own.new w (fun _ => 0) N
  have hBW := below1 w (.cells (arrOf (fun _ => 0) N) 22)
  have hsd := shiftDown_any w.heap.size N N N (c - q) r (some ⟨b, off + q, none⟩) (fun _ => 0) (fun i => x (q + i)) _ (Nat.le_refl _) (by omega) hr64 hO (by have := (hN.drop (q := q) (by omega)).next hBW; rw [hNs] at this; exact this) hA
  have HZ : Hid (∀ j, N ≤ j → shrW x q r j = 0) := fun j hj => shrW_zero hN.2.2.2.1 q r j (by omega)
  have HW : Hid (Words (shrW x q r)) := shrW_words hx q r
  have HD : Hid (∀ i, i < N → dnZ (fun _ => 0) (fun i => x (q + i)) r N 0 i = shrW x q r i) := fun i hi => by
    unfold dnZ; rw [if_pos (by omega)]; unfold shrW; simp only [Nat.zero_add, Nat.add_assoc]
  have HB : Hid (Below w.heap.size w (w.alloc (.cells (arrOf (fun _ => 0) N) 22))) := hBW
  have HNN : Hid (N ≤ s) := by show _ ≤ _; omega
  have hqsi : (q : Int) < s := by omega
  have hqc : (q : Int) ≤ c := by omega
  have HG : Hid (goneB x q r = (decide (0 < sizeL x q) || decide (x q % 2 ^ r ≠ 0))) := rfl
  have fin : ∀ w1, Own w.heap.size N (dnZ (fun _ => 0) (fun i => x (q + i)) r N 0) w1 → ∃ k, k ≤ N ∧ Num w1 (some ⟨w.heap.size, 0, none⟩) k N (shrW x q r) ∧ sizeL (shrW x q r) k = k ∧ Calls Tryd.prog 58 #[.slice (some ⟨w.heap.size, 0, none⟩) N N] w1 fun e w' => e = .returned (.slice (some ⟨w.heap.size, 0, none⟩) k N) ∧ w1 = w' := by
    intro w1 hO1
    have hO2 := hO1.congr HD.out
    have h1 := hO2.num HW.out 0 N N (by omega) (Nat.le_refl _) (by unfold maxLen; omega)
    have e : segW (shrW x q r) 0 N = shrW x q r := by
      funext i
      by_cases hi : i < N
      · rw [segW_lt _ 0 N i hi, Nat.zero_add]
      · rw [segW_zero _ 0 N i (by omega), HZ.out i (by omega)]
    rw [e] at h1
    exact ⟨sizeL (shrW x q r) N, sizeL_le _ _, h1.bare, sizeL_sizeL _ _, bare_any _ N N _ w1 (by omega) h1⟩
  have FIN : Hid (∀ w1, Own w.heap.size N (dnZ (fun _ => 0) (fun i => x (q + i)) r N 0) w1 → ∃ k, k ≤ N ∧ Num w1 (some ⟨w.heap.size, 0, none⟩) k N (shrW x q r) ∧ sizeL (shrW x q r) k = k ∧ Calls Tryd.prog 58 #[.slice (some ⟨w.heap.size, 0, none⟩) N N] w1 fun e w' => e = .returned (.slice (some ⟨w.heap.size, 0, none⟩) k N) ∧ w1 = w') := fin
  clear fin hBW hN hA hO hc hx HZ HW HD es hNi
  generalize dnZ (fun _ => 0) (fun i => x (q + i)) r N 0 = zz at *
  by_cases hm : x q % 2 ^ r = 0
  · have htf : (IntKind.u64.wrap (x q * 2 ^ (64 - r)) != 0) = false := by rw [ht]; simp [hm]
    have HGv : Hid (goneB x q r = decide (0 < sizeL x q)) := by show _ = _; rw [HG.out]; simp [hm]
    generalize sizeL x q = sq at *
    clear ht HG hm
    by_cases hsq0 : sq = 0
    · subst hsq0
      go_enter Tryd.func55, Tryd.ntmps55
      go_wp2_with (first | (go_at_call_of 58 (Value.slice (some ⟨b, off, none⟩) n c); refine hb.mono ?_; rintro e w' ⟨rfl, rfl⟩; clear hb) | (go_at_call_of 58 (Value.slice (some ⟨b, off, none⟩) q c); refine hbt.mono ?_; rintro e w' ⟨rfl, rfl⟩; clear hbt) | (go_at_call 65; refine hsd.mono ?_; rintro e w1 ⟨rfl, hO1, hU1⟩))
      obtain ⟨k, hkN, hNk, hsk, hbr⟩ := FIN.out w1 hO1
      have HB2 : Hid (Below w.heap.size w w1) := HB.out.trans (hU1.below (Nat.le_refl _))
      have HNk : Hid (Num w1 (some ⟨w.heap.size, 0, none⟩) k N (shrW x q r)) := hNk
      clear hO1 hU1 hNk
      go_wp2_with (go_at_call 58; refine hbr.mono ?_; rintro e w3 ⟨rfl, rfl⟩)
      go_ret2
      exact ⟨_, k, N, by rw [HGv.out]; rfl, by have := HNN.out; omega, HNk.out, hsk, HB2.out⟩
    · have hsq0' : (0 : Int) < sq := by omega
      go_enter Tryd.func55, Tryd.ntmps55
      go_wp2_with (first | (go_at_call_of 58 (Value.slice (some ⟨b, off, none⟩) n c); refine hb.mono ?_; rintro e w' ⟨rfl, rfl⟩; clear hb) | (go_at_call_of 58 (Value.slice (some ⟨b, off, none⟩) q c); refine hbt.mono ?_; rintro e w' ⟨rfl, rfl⟩; clear hbt) | (go_at_call 65; refine hsd.mono ?_; rintro e w1 ⟨rfl, hO1, hU1⟩))
      obtain ⟨k, hkN, hNk, hsk, hbr⟩ := FIN.out w1 hO1
      have HB2 : Hid (Below w.heap.size w w1) := HB.out.trans (hU1.below (Nat.le_refl _))
      have HNk : Hid (Num w1 (some ⟨w.heap.size, 0, none⟩) k N (shrW x q r)) := hNk
      clear hO1 hU1 hNk
      go_wp2_with (go_at_call 58; refine hbr.mono ?_; rintro e w3 ⟨rfl, rfl⟩)
      go_ret2
      exact ⟨_, k, N, by rw [HGv.out]; rfl, by have := HNN.out; omega, HNk.out, hsk, HB2.out⟩
  · have htt : (IntKind.u64.wrap (x q * 2 ^ (64 - r)) != 0) = true := by rw [ht]; simp [hm]
    have HGv : Hid (goneB x q r = true) := by show _ = _; rw [HG.out]; simp [hm]
    clear ht HG hm
    go_enter Tryd.func55, Tryd.ntmps55
    go_wp2_with (first | (go_at_call_of 58 (Value.slice (some ⟨b, off, none⟩) n c); refine hb.mono ?_; rintro e w' ⟨rfl, rfl⟩; clear hb) | (go_at_call_of 58 (Value.slice (some ⟨b, off, none⟩) q c); refine hbt.mono ?_; rintro e w' ⟨rfl, rfl⟩; clear hbt) | (go_at_call 65; refine hsd.mono ?_; rintro e w1 ⟨rfl, hO1, hU1⟩))
    obtain ⟨k, hkN, hNk, hsk, hbr⟩ := FIN.out w1 hO1
    have HB2 : Hid (Below w.heap.size w w1) := HB.out.trans (hU1.below (Nat.le_refl _))
    have HNk : Hid (Num w1 (some ⟨w.heap.size, 0, none⟩) k N (shrW x q r)) := hNk
    clear hO1 hU1 hNk
    go_wp2_with (go_at_call 58; refine hbr.mono ?_; rintro e w3 ⟨rfl, rfl⟩)
    go_ret2
    exact ⟨_, k, N, by rw [HGv.out]; rfl, by have := HNN.out; omega, HNk.out, hsk, HB2.out⟩
set_option maxHeartbeats 400000 in
theorem nshr_small (a : Option Addr) (n c : Nat) (x : Nat → Int) (d : Int) (w : World) (hn : n < 4000000000) (h : Num w a n c x) (hd : d < 1) :
    Calls Tryd.prog 55 #[.slice a n c, .int .i64 d] w fun e w' => e = .returned (.tuple #[.slice (some ⟨w.heap.size, 0, none⟩) (sizeL x n) (sizeL x n), .bool false]) ∧ w.alloc (.cells (arrOf x (sizeL x n)) 22) = w' := by
  have ht := ntrim_any a n c x w (by omega) h
  generalize sizeL x n = s at *
  clear h
  go_enter Tryd.func55, Tryd.ntmps55
  go_wp2_with (go_at_call 64; refine ht.mono ?_; rintro e w' ⟨rfl, rfl⟩)
  go_ret2
  exact ⟨rfl, rfl⟩
set_option maxRecDepth 20000 in
set_option maxHeartbeats 400000 in
theorem nshr_all_out (a : Option Addr) (n c : Nat) (x : Nat → Int) (d : Int) (w : World) (hn : n < 4000000000) (h : Num w a n c x) (hd : 1 ≤ d) (hd2 : d ≤ 9223372036854775807) (hq : (sizeL x n : Int) ≤ d / 64) :
    Calls Tryd.prog 55 #[.slice a n c, .int .i64 d] w fun e w' => e = .returned (.tuple #[.slice none 0 0, .bool (decide (0 < sizeL x n))]) ∧ w = w' := by
  have hb := bare_any a n c x w (by omega) h
  generalize sizeL x n = s at *
  clear h
  obtain ⟨q, hq2⟩ : ∃ q : Nat, d / 64 = q := ⟨(d / 64).toNat, by omega⟩
  obtain ⟨r, hr⟩ : ∃ r : Nat, d % 64 = r := ⟨(d % 64).toNat, by omega⟩
  rw [hq2] at hq
  have hqn : s ≤ q := by omega
  have hqm : ¬ q < s := by omega
  have hqb : (q : Int) ≤ 144115188075855871 := by omega
  go_enter Tryd.func55, Tryd.ntmps55
  go_wp2_with (go_at_call 58; refine hb.mono ?_; rintro e w' ⟨rfl, rfl⟩)
  go_ret2
  exact ⟨rfl, rfl⟩

/-- the words of x divided by 2^d; and what is told -/
def shrF (x : Nat → Int) (d : Int) : Nat → Int := if d < 1 then x else shrW x (d / 64).toNat (d % 64).toNat
def shrG (x : Nat → Int) (d : Int) : Bool := if d < 1 then false else goneB x (d / 64).toNat (d % 64).toNat
theorem goneB_out {x : Nat → Int} {n q r : Nat} (zx : ∀ i, n ≤ i → x i = 0) (h : sizeL x n ≤ q) : goneB x q r = decide (0 < sizeL x n) := by
  have z := sizeL_zero n zx
  unfold goneB
  rw [z q h, ← sizeL_sizeL x n, sizeL_more z q h]
  simp
theorem nshr_all (a : Option Addr) (n c : Nat) (x : Nat → Int) (d : Int) (w : World) (hn : n < 4000000000) (h : Num w a n c x) (hd2 : d ≤ 9223372036854775807) :
    Calls Tryd.prog 55 #[.slice a n c, .int .i64 d] w fun e w' => ∃ o k cap, e = .returned (.tuple #[.slice o k cap, .bool (shrG x d)]) ∧ k ≤ n ∧ Num w' o k cap (shrF x d) ∧ sizeL (shrF x d) k = k ∧ Below w.heap.size w w' := by
  have hle := sizeL_le x n
  by_cases hd : d < 1
  · have e1 : shrF x d = x := by unfold shrF; rw [if_pos hd]
    have e2 : shrG x d = false := by unfold shrG; rw [if_pos hd]
    rw [e1, e2]
    refine (nshr_small a n c x d w hn h hd).mono fun e w' hw => ⟨_, sizeL x n, sizeL x n, hw.1, hle, ?_, sizeL_sizeL x n, hw.2 ▸ below1 w _⟩
    rw [← hw.2]
    exact num_of_block (by omega) h.2.2.1 h.bare.2.2.2.1 (arrOf_size _ _) (fun j hj => arrOf_get _ _ _ _)
  · obtain ⟨q, hq⟩ : ∃ q : Nat, d / 64 = q := ⟨(d / 64).toNat, by omega⟩
    obtain ⟨r, hr⟩ : ∃ r : Nat, d % 64 = r := ⟨(d % 64).toNat, by omega⟩
    have e1 : shrF x d = shrW x q r := by unfold shrF; rw [if_neg hd, hq, hr, Int.toNat_natCast, Int.toNat_natCast]
    have e2 : shrG x d = goneB x q r := by unfold shrG; rw [if_neg hd, hq, hr, Int.toNat_natCast, Int.toNat_natCast]
    rw [e1, e2]
    by_cases hqs : q < sizeL x n
    · exact (nshr_any a n c q r x d w hn h (by omega) hq hr hqs).mono fun e w' ⟨g, k, cap, e1, h2, h3, h4, h5⟩ => ⟨_, k, cap, e1, h2, h3, h4, h5⟩
    · have e3 : shrW x q r = fun _ => 0 := by funext j; exact shrW_zero h.bare.2.2.2.1 q r j (by omega)
      rw [e3, goneB_out h.2.2.2.1 (by omega)]
      exact (nshr_all_out a n c x d w hn h (by omega) hd2 (by omega)).mono fun e w' hw => ⟨none, 0, 0, hw.1, Nat.zero_le _, num_none w', rfl, hw.2 ▸ Below.refl _ _⟩
end Go.Proofs.YtkefmapcaggefaaDoor

namespace Go.Proofs.YtkefmapcaggefaaDoor
open Go.RowKit

/-- what is left, and the divisor, by their two highest words and what is below -/
structure Gs (R D u1 u0 v1 v0 P a b : Int) : Prop where
  hR : R = a + (u1 * 18446744073709551616 + u0) * (P * 18446744073709551616)
  hD : D = b + (v1 * 18446744073709551616 + v0) * P
  p : 0 < P
  a0 : 0 ≤ a
  a1 : a < P * 18446744073709551616
  b0 : 0 ≤ b
  b1 : b < P
  u1w : 0 ≤ u1 ∧ u1 ≤ 18446744073709551615
  u0w : 0 ≤ u0 ∧ u0 ≤ 18446744073709551615
  v1w : 9223372036854775808 ≤ v1 ∧ v1 ≤ 18446744073709551615
  v0w : 0 ≤ v0 ∧ v0 ≤ 18446744073709551615
  lt : R < D * 18446744073709551616

section
variable {R D u1 u0 v1 v0 P a b : Int}
theorem Gs.lowR (h : Gs R D u1 u0 v1 v0 P a b) : (u1 * 18446744073709551616 + u0) * 18446744073709551616 * P ≤ R := by
  have := h.hR; have := h.a0
  have e : (u1 * 18446744073709551616 + u0) * 18446744073709551616 * P = (u1 * 18446744073709551616 + u0) * (P * 18446744073709551616) := by grind
  omega
theorem Gs.highR (h : Gs R D u1 u0 v1 v0 P a b) : R < ((u1 * 18446744073709551616 + u0) + 1) * 18446744073709551616 * P := by
  have := h.hR; have := h.a1
  have e : ((u1 * 18446744073709551616 + u0) + 1) * 18446744073709551616 * P = (u1 * 18446744073709551616 + u0) * (P * 18446744073709551616) + P * 18446744073709551616 := by grind
  omega
theorem Gs.lowD (h : Gs R D u1 u0 v1 v0 P a b) : (v1 * 18446744073709551616 + v0) * P ≤ D := by have := h.hD; have := h.b0; omega
theorem Gs.highD (h : Gs R D u1 u0 v1 v0 P a b) : D ≤ (v1 * 18446744073709551616 + v0 + 1) * P := by
  have := h.hD; have := h.b1
  have e : (v1 * 18446744073709551616 + v0 + 1) * P = (v1 * 18446744073709551616 + v0) * P + P := by grind
  omega
theorem Gs.posD (h : Gs R D u1 u0 v1 v0 P a b) : 0 < D := by
  have h1 := h.lowD
  have : 0 < (v1 * 18446744073709551616 + v0) * P := Int.mul_pos (by have := h.v1w; have := h.v0w; omega) h.p
  omega
/-- products of a digit with the divisor, from both sides -/
theorem Gs.times_ge (h : Gs R D u1 u0 v1 v0 P a b) {k N : Int} (hk : 0 ≤ k) (hN : N ≤ k * (v1 * 18446744073709551616 + v0)) : N * P ≤ k * D := by
  have h1 : k * ((v1 * 18446744073709551616 + v0) * P) ≤ k * D := Int.mul_le_mul_of_nonneg_left h.lowD hk
  have h2 : N * P ≤ k * (v1 * 18446744073709551616 + v0) * P := Int.mul_le_mul_of_nonneg_right hN (Int.le_of_lt h.p)
  rw [Int.mul_assoc] at h2
  omega
theorem Gs.times_le (h : Gs R D u1 u0 v1 v0 P a b) {k N : Int} (hk : 0 ≤ k) (hN : k * (v1 * 18446744073709551616 + v0 + 1) ≤ N) : k * D ≤ N * P := by
  have h1 : k * D ≤ k * ((v1 * 18446744073709551616 + v0 + 1) * P) := Int.mul_le_mul_of_nonneg_left h.highD hk
  have h2 : k * (v1 * 18446744073709551616 + v0 + 1) * P ≤ N * P := Int.mul_le_mul_of_nonneg_right hN (Int.le_of_lt h.p)
  rw [Int.mul_assoc] at h2
  omega
/-- the first guess is not too small -/
theorem Gs.first (h : Gs R D u1 u0 v1 v0 P a b) : R < ((u1 * 18446744073709551616 + u0) / v1 + 1) * D := by
  have hv : 0 < v1 := by have := h.v1w; omega
  have h1 := h.highR
  have hq := Int.lt_mul_ediv_self_add (x := u1 * 18446744073709551616 + u0) hv
  have hq0 : 0 ≤ (u1 * 18446744073709551616 + u0) / v1 := Int.ediv_nonneg (by have := h.u1w; have := h.u0w; omega) (Int.le_of_lt hv)
  have := h.v0w
  generalize (u1 * 18446744073709551616 + u0) / v1 = k at *
  have h2 : (u1 * 18446744073709551616 + u0 + 1) * 18446744073709551616 ≤ (k + 1) * (v1 * 18446744073709551616 + v0) := by
    have e : (k + 1) * (v1 * 18446744073709551616 + v0) = (v1 * k + v1) * 18446744073709551616 + (k + 1) * v0 := by grind
    have : 0 ≤ (k + 1) * v0 := Int.mul_nonneg (by omega) (by omega)
    omega
  have h3 := h.times_ge (by omega) h2
  omega
/-- a guess whose product with the second word is too great is too great itself -/
theorem Gs.great (h : Gs R D u1 u0 v1 v0 P a b) {k r : Int} (hk : 0 ≤ k) (he : k * v1 + r = u1 * 18446744073709551616 + u0) (ht : (r + 1) * 18446744073709551616 ≤ k * v0) : R < k * D := by
  have h1 := h.highR
  have h2 : (u1 * 18446744073709551616 + u0 + 1) * 18446744073709551616 ≤ k * (v1 * 18446744073709551616 + v0) := by
    have e : k * (v1 * 18446744073709551616 + v0) = (k * v1) * 18446744073709551616 + k * v0 := by grind
    omega
  have h3 := h.times_ge hk h2
  omega
/-- a guess that stands is at most one too great -/
theorem Gs.stands (h : Gs R D u1 u0 v1 v0 P a b) {k r : Int} (hk : 0 ≤ k) (hk2 : k ≤ 18446744073709551615) (he : k * v1 + r = u1 * 18446744073709551616 + u0) (ht : k * v0 < (r + 1) * 18446744073709551616) : (k - 1) * D ≤ R := by
  have h1 := h.lowR
  by_cases h0 : k = 0
  · subst h0
    have := h.posD
    have : 0 ≤ (u1 * 18446744073709551616 + u0) * 18446744073709551616 * P := Int.mul_nonneg (Int.mul_nonneg (by have := h.u1w; have := h.u0w; omega) (by decide)) (Int.le_of_lt h.p)
    omega
  · have hv := h.v1w
    have hv0 := h.v0w
    have h2 : (k - 1) * (v1 * 18446744073709551616 + v0 + 1) ≤ (u1 * 18446744073709551616 + u0) * 18446744073709551616 := by
      have e : (k - 1) * (v1 * 18446744073709551616 + v0 + 1) = (k * v1) * 18446744073709551616 + k * v0 + k - v1 * 18446744073709551616 - v0 - 1 := by grind
      omega
    have h3 := h.times_le (by omega) h2
    omega
/-- where the highest words are the same the greatest word is at most one too great -/
theorem Gs.full (h : Gs R D u1 u0 v1 v0 P a b) (he : v1 ≤ u1) : (18446744073709551615 - 1) * D ≤ R := by
  have h1 := h.lowR
  have hv := h.v1w
  have hv0 := h.v0w
  have hu0 := h.u0w
  have h2 : (18446744073709551615 - 1) * (v1 * 18446744073709551616 + v0 + 1) ≤ (u1 * 18446744073709551616 + u0) * 18446744073709551616 := by omega
  have h3 := h.times_le (by decide) h2
  omega
end

/-- words shifted down: their value -/
theorem dn_val {y : Nat → Int} (hy : Words y) {r : Nat} (hr : r < 64) : ∀ m, val (shrW y 0 r) m * 2 ^ r + y 0 % 2 ^ r = val y m + y m % 2 ^ r * 18446744073709551616 ^ m
  | 0 => by simp [val]
  | m + 1 => by
    have ih := dn_val hy hr m
    have hp := p2_pos r
    have e1 : shrW y 0 r m = y m / 2 ^ r + y (m + 1) % 2 ^ r * 2 ^ (64 - r) := by
      have h1 := shr_or hy hr 0 m
      rw [Nat.zero_add] at h1
      rw [← h1]
      unfold dnW
      have hme : y (m + 1) * 2 ^ (64 - r) % 18446744073709551616 = y (m + 1) % 2 ^ r * 2 ^ (64 - r) := by
        have h3 := Int.mul_emod_mul_of_pos (y (m + 1)) (2 ^ r) (p2_pos (64 - r))
        rw [← p2_split (show r ≤ 64 by omega), Int.mul_comm (y (m + 1)), h3, Int.mul_comm]
      have hlt : y m / 2 ^ r < 2 ^ (64 - r) := by
        refine Int.ediv_lt_of_lt_mul hp ?_
        rw [p2_split (show r ≤ 64 by omega)]
        have := hy m; omega
      by_cases h0 : r = 0
      · subst h0
        have : y (m + 1) * 2 ^ (64 - 0) % 18446744073709551616 = 0 := Int.mul_emod_left _ _
        rw [wrap_mod, this, orW_zero _ (div_word _ _ (hy m))]
        simp [Int.emod_one]
      · have h64 : 64 - (64 - r) = r := by omega
        have ho := or_shl (y := y (m + 1)) (b := y m / 2 ^ r) (r := 64 - r) (by omega) (hy (m + 1)).1 ⟨(div_word _ _ (hy m)).1, hlt⟩
        rw [ho, hme]; omega
    show (val (shrW y 0 r) m + shrW y 0 r m * 18446744073709551616 ^ m) * 2 ^ r + y 0 % 2 ^ r = val y m + y m * 18446744073709551616 ^ m + y (m + 1) % 2 ^ r * 18446744073709551616 ^ (m + 1)
    have e2 := Int.emod_add_mul_ediv (y m) (2 ^ r)
    have e3 := p2_split (show r ≤ 64 by omega)
    rw [e1, Int.pow_succ]
    generalize (18446744073709551616 : Int) ^ m = Q at *
    generalize y m / 2 ^ r = A at *
    generalize y m % 2 ^ r = A' at *
    generalize y (m + 1) % 2 ^ r = C at *
    generalize y 0 % 2 ^ r = Z at *
    generalize (2 : Int) ^ (64 - r) = T at *
    generalize (2 : Int) ^ r = S at *
    grind
end Go.Proofs.YtkefmapcaggefaaDoor

namespace Go.Proofs.YtkefmapcaggefaaDoor
open Go.RowKit

/-- the guess, put right by the second word -/
def gsL (v1 v0 : Int) : Nat → Int → Int → Int
  | 0, d, r => d
  | f + 1, d, r => if d * v0 / 18446744073709551616 ≤ r then d else if 18446744073709551616 ≤ r + v1 then d - 1 else gsL v1 v0 f (d - 1) (r + v1)
def gsF (u1 u0 v1 v0 : Int) : Int := if v1 ≤ u1 then 18446744073709551615 else gsL v1 v0 2 ((u1 * 18446744073709551616 + u0) / v1) ((u1 * 18446744073709551616 + u0) % v1)

theorem gs_one {d v0 r : Int} (hd : 0 ≤ d) (hr : 0 ≤ r) (h : ¬ d * v0 / 18446744073709551616 ≤ r) : 1 ≤ d := by
  by_cases e : d = 0
  · subst e; rw [Int.zero_mul] at h; omega
  · omega
theorem gsL_spec {R D u1 u0 v1 v0 P a b : Int} (G : Gs R D u1 u0 v1 v0 P a b) : ∀ (f : Nat) (d r : Int), 0 ≤ d → d ≤ 18446744073709551615 → 0 ≤ r → r ≤ 18446744073709551615 → d * v1 + r = u1 * 18446744073709551616 + u0 → R < (d + 1) * D → 18446744073709551616 ≤ r + f * v1 →
    0 ≤ gsL v1 v0 f d r ∧ gsL v1 v0 f d r ≤ 18446744073709551615 ∧ R < (gsL v1 v0 f d r + 1) * D ∧ (gsL v1 v0 f d r - 1) * D ≤ R
  | 0, d, r, h1, h2, h3, h4, he, hR, hf => by simp at hf; omega
  | f + 1, d, r, h1, h2, h3, h4, he, hR, hf => by
    unfold gsL
    by_cases hh : d * v0 / 18446744073709551616 ≤ r
    · rw [if_pos hh]
      exact ⟨h1, h2, hR, G.stands h1 h2 he (by omega)⟩
    · rw [if_neg hh]
      have h11 := gs_one h1 h3 hh
      have hR2 : R < (d - 1 + 1) * D := by
        have := G.great h1 he (by omega)
        rw [show d - 1 + 1 = d by omega]; exact this
      have he2 : (d - 1) * v1 + (r + v1) = u1 * 18446744073709551616 + u0 := by rw [Int.sub_mul]; omega
      have hv := G.v1w
      have hv0 := G.v0w
      by_cases ho : 18446744073709551616 ≤ r + v1
      · rw [if_pos ho]
        refine ⟨by omega, by omega, hR2, G.stands (by omega) (by omega) he2 ?_⟩
        have : (d - 1) * v0 ≤ 18446744073709551615 * 18446744073709551615 := Int.mul_le_mul (by omega) hv0.2 hv0.1 (by decide)
        omega
      · rw [if_neg ho]
        refine gsL_spec G f (d - 1) (r + v1) (by omega) (by omega) (by omega) (by omega) he2 hR2 ?_
        have e : ((f + 1 : Nat) : Int) * v1 = f * v1 + v1 := by rw [Int.natCast_add, Int.add_mul]; simp
        rw [e] at hf
        omega
theorem gsF_spec {R D u1 u0 v1 v0 P a b : Int} (G : Gs R D u1 u0 v1 v0 P a b) : 0 ≤ gsF u1 u0 v1 v0 ∧ gsF u1 u0 v1 v0 ≤ 18446744073709551615 ∧ R < (gsF u1 u0 v1 v0 + 1) * D ∧ (gsF u1 u0 v1 v0 - 1) * D ≤ R := by
  have hv := G.v1w
  have hu := G.u1w
  have hu0 := G.u0w
  unfold gsF
  by_cases h : v1 ≤ u1
  · rw [if_pos h]
    refine ⟨by decide, by decide, ?_, G.full h⟩
    have := G.lt
    rw [Int.mul_comm]; exact this
  · rw [if_neg h]
    have h1 : 0 ≤ (u1 * 18446744073709551616 + u0) / v1 := Int.ediv_nonneg (by omega) (by omega)
    have h2 : (u1 * 18446744073709551616 + u0) / v1 < 18446744073709551616 := Int.ediv_lt_of_lt_mul (by omega) (by omega)
    have h3 := Int.emod_nonneg (u1 * 18446744073709551616 + u0) (show v1 ≠ 0 by omega)
    have h4 := Int.emod_lt_of_pos (u1 * 18446744073709551616 + u0) (show 0 < v1 by omega)
    have h5 := Int.emod_add_mul_ediv (u1 * 18446744073709551616 + u0) v1
    refine gsL_spec G 2 _ _ h1 (by omega) h3 (by omega) ?_ G.first (by omega)
    rw [Int.mul_comm]; omega
theorem drw_add (w : World) (a b : Nat) : (w.drewN a).drewN b = w.drewN (a + b) := by simp [World.drewN, Nat.add_assoc]

set_option maxHeartbeats 1000000 in
theorem guess_any (u1 u0 v1 v0 : Int) (w : World) (hu1 : 0 ≤ u1 ∧ u1 ≤ 18446744073709551615) (hu0 : 0 ≤ u0 ∧ u0 ≤ 18446744073709551615) (hv1 : 9223372036854775808 ≤ v1 ∧ v1 ≤ 18446744073709551615) (hv0 : 0 ≤ v0 ∧ v0 ≤ 18446744073709551615) :
    Calls Tryd.prog 81 #[.int .u64 u1, .int .u64 u0, .int .u64 v1, .int .u64 v0] w fun e w' => e = .returned (.int .u64 (gsF u1 u0 v1 v0)) ∧ ∃ m, w' = w.drewN m := by
  by_cases h : v1 ≤ u1
  · have HG : Hid (gsF u1 u0 v1 v0 = 18446744073709551615) := by show _ = _; unfold gsF; rw [if_pos h]
    go_enter Tryd.func81, Tryd.ntmps81
    go_wp2
    go_ret
    exact ⟨ret_int HG.out.symm, 0, rfl⟩
  · have HG : Hid (gsF u1 u0 v1 v0 = gsL v1 v0 2 ((u1 * 18446744073709551616 + u0) / v1) ((u1 * 18446744073709551616 + u0) % v1)) := by show _ = _; unfold gsF; rw [if_neg h]
    have hd := div64_all u1 u0 v1 w hu1.1 (by omega) hv1.2 hu0
    have h1 : 0 ≤ (u1 * 18446744073709551616 + u0) / v1 := Int.ediv_nonneg (by omega) (by omega)
    have h2 : (u1 * 18446744073709551616 + u0) / v1 < 18446744073709551616 := Int.ediv_lt_of_lt_mul (by omega) (by omega)
    have h3 := Int.emod_nonneg (u1 * 18446744073709551616 + u0) (show v1 ≠ 0 by omega)
    have h4 := Int.emod_lt_of_pos (u1 * 18446744073709551616 + u0) (show 0 < v1 by omega)
    generalize gsF u1 u0 v1 v0 = T at *
    generalize (u1 * 18446744073709551616 + u0) / v1 = d0 at *
    generalize (u1 * 18446744073709551616 + u0) % v1 = r0 at *
    go_enter Tryd.func81, Tryd.ntmps81
    go_wp2_with (go_at_call 78; refine hd.mono ?_; rintro e w' ⟨rfl, m, rfl⟩)
    go_loopw [9, 10, 11, 12, 23] (fun dv rv u11 u12 u23 wr => ∃ (f : Nat) (d r : Int), dv = .int .u64 d ∧ rv = .int .u64 r ∧ 0 ≤ d ∧ d ≤ 18446744073709551615 ∧ 0 ≤ r ∧ r ≤ 18446744073709551615 ∧ 18446744073709551616 ≤ r + f * v1 ∧ Hid (T = gsL v1 v0 f d r) ∧ wr = w.drewN m) (fun dv _ _ _ _ _ => (intOf dv).toNat)
    case atStart => exact ⟨2, d0, r0, rfl, rfl, h1, by omega, h3, by omega, by omega, HG.out, rfl⟩
    case round =>
      clear hd h1 h2 h3 h4 HG
      obtain ⟨f, d, r, rfl, rfl, a1, a2, a3, a4, hf, hT, rfl⟩ := hrel
      obtain ⟨f', rfl⟩ : ∃ f', f = f' + 1 := by
        cases f with
        | zero => simp at hf; omega
        | succ f' => exact ⟨f', rfl⟩
      have hmul := mul64 d v0 ⟨a1, a2⟩ hv0 (w.drewN m)
      have hfe : ((f' + 1 : Nat) : Int) * v1 = f' * v1 + v1 := by rw [Int.natCast_add, Int.add_mul]; simp
      rw [hfe] at hf
      have HF : Hid (18446744073709551616 ≤ r + (f' * v1 + v1)) := hf
      have hh0 : 0 ≤ d * v0 / 18446744073709551616 := Int.ediv_nonneg (Int.mul_nonneg a1 hv0.1) (by decide)
      by_cases hh : d * v0 / 18446744073709551616 ≤ r
      · have HT : Hid (T = d) := by show _ = _; rw [hT.out]; unfold gsL; rw [if_pos hh]
        clear hT hf hfe HF
        generalize d * v0 / 18446744073709551616 = hi at *
        generalize d * v0 % 18446744073709551616 = lo at *
        go_wp2_with (go_at_call 83; refine hmul.mono ?_; rintro e w' ⟨rfl, rfl⟩)
        go_ret
        exact ⟨ret_int HT.out.symm, m, rfl⟩
      · have h11 := gs_one a1 a3 hh
        by_cases ho : 18446744073709551616 ≤ r + v1
        · have HT : Hid (T = d - 1) := by show _ = _; rw [hT.out]; unfold gsL; rw [if_neg hh, if_pos ho]
          have hw : IntKind.u64.wrap (r + v1) = r + v1 - 18446744073709551616 := by rw [wrap_mod]; omega
          have hlt : r + v1 - 18446744073709551616 < v1 := by omega
          clear hT hf hfe HF
          generalize d * v0 / 18446744073709551616 = hi at *
          generalize d * v0 % 18446744073709551616 = lo at *
          go_wp2_with (go_at_call 83; refine hmul.mono ?_; rintro e w' ⟨rfl, rfl⟩)
          go_ret
          exact ⟨ret_int HT.out.symm, m, rfl⟩
        · have HT : Hid (T = gsL v1 v0 f' (d - 1) (r + v1)) := by show _ = _; rw [hT.out]; conv => lhs; unfold gsL
                                                                  rw [if_neg hh, if_neg ho]
          have hlt : ¬ r + v1 < v1 := by omega
          have hle : r + v1 ≤ 18446744073709551615 := by omega
          clear hT hf hfe
          generalize d * v0 / 18446744073709551616 = hi at *
          generalize d * v0 % 18446744073709551616 = lo at *
          go_wp2_with (go_at_call 83; refine hmul.mono ?_; rintro e w' ⟨rfl, rfl⟩)
          go_roundw
          case rel => exact ⟨f', d - 1, r + v1, rfl, rfl, by omega, by omega, by omega, by omega, by have := HF.out; omega, HT, trivial⟩
          case measure => simp [intOf]; omega
end Go.Proofs.YtkefmapcaggefaaDoor

namespace Go.Proofs.YtkefmapcaggefaaDoor
open Go.RowKit

theorem seg_next (z : Nat → Int) (off j : Nat) : val (segW z off (j + 1)) (j + 1) = val (segW z off j) j + z (off + j) * 18446744073709551616 ^ j := by
  show val (segW z off (j + 1)) j + segW z off (j + 1) j * 18446744073709551616 ^ j = _
  rw [segW_lt z off (j + 1) j (by omega), val_congr (x := segW z off (j + 1)) (y := segW z off j) j fun i hi => by rw [segW_lt _ _ _ i (by omega), segW_lt _ _ _ i hi]]
theorem seg_congr {z z' : Nat → Int} (off j : Nat) (h : ∀ i, off ≤ i → i < off + j → z i = z' i) : val (segW z off j) j = val (segW z' off j) j :=
  val_congr j fun i hi => by rw [segW_lt _ _ _ i hi, segW_lt _ _ _ i hi, h (off + i) (by omega) (by omega)]
theorem sub_round {V V0 C n vy yj zj l hi l' bo : Int} {Q : Int} (h : V - C * Q = V0 - n * vy) (hl : l + hi * 18446744073709551616 = yj * n + 0 + C) (hb : l' - bo * 18446744073709551616 = zj - l) :
    V + l' * Q - (hi + bo) * (Q * 18446744073709551616) = V0 + zj * Q - n * (vy + yj * Q) := by grind

theorem sub_nowrap {yj n C l hi zj : Int} (hy : 0 ≤ yj ∧ yj ≤ 18446744073709551615) (hn : 0 ≤ n ∧ n ≤ 18446744073709551615) (hC : 0 ≤ C ∧ C ≤ 18446744073709551615) (hl : l + hi * 18446744073709551616 = yj * n + 0 + C) (hlb : 0 ≤ l ∧ l ≤ 18446744073709551615) (hz : 0 ≤ zj ∧ zj ≤ 18446744073709551615) : hi + bor zj l 0 ≤ 18446744073709551615 := by
  have hp : yj * n ≤ 18446744073709551615 * 18446744073709551615 := Int.mul_le_mul hy.2 hn.2 hn.1 (by decide)
  have hb := bor_01 zj l 0
  by_cases e : hi = 18446744073709551615
  · have e2 : l = 0 := by omega
    have : bor zj l 0 = 0 := by unfold bor; rw [if_neg (by omega)]
    omega
  · omega

set_option maxHeartbeats 1000000 in
theorem subProduct_any (g N off m c k c' : Nat) (a' : Option Addr) (x y : Nat → Int) (n : Int) (w : World) (hm : off + m ≤ N) (hN : N < 4294967296) (hk : k ≤ m) (hx : Words x) (hn : 0 ≤ n ∧ n ≤ 18446744073709551615) (h : Own g N x w) (h' : Num w a' k c' y) (hA : Apart a' g) :
    Calls Tryd.prog 82 #[.slice (some ⟨g, off, none⟩) m c, .slice a' k c', .int .u64 n] w fun e w' => ∃ C z, e = .returned (.int .u64 C) ∧ (0 ≤ C ∧ C ≤ 18446744073709551615) ∧ Own g N z w' ∧ Words z ∧ val (segW z off k) k - C * 18446744073709551616 ^ k = val (segW x off k) k - n * val y k ∧ (∀ i, i < off ∨ off + k ≤ i → z i = x i) ∧ Upd g w w' := by
  have hy := h'.2.2.1
  go_enter Tryd.func82, Tryd.ntmps82
  go_wp2
  go_loopw [7, 8, 9, 10, 11, 12, 15, 20, 27] (fun cv u8 u9 u10 u11 u12 i u20 u27 wr => ∃ (j : Nat) (C : Int) (z : Nat → Int), j ≤ k ∧ i = .int .i64 j ∧ cv = .int .u64 C ∧ (0 ≤ C ∧ C ≤ 18446744073709551615) ∧ Own g N z wr ∧ Words z ∧ Hid (val (segW z off j) j - C * 18446744073709551616 ^ j = val (segW x off j) j - n * val y j) ∧ (∀ i, i < off ∨ off + j ≤ i → z i = x i) ∧ Upd g w wr) (fun _ _ _ _ _ _ i _ _ _ => k - (intOf i).toNat)
  case atStart => exact ⟨0, 0, x, Nat.zero_le _, rfl, rfl, by decide, h, hx, by show _ = _; simp [val], fun _ _ => rfl, Upd.refl _ _⟩
  case round =>
    obtain ⟨j, C, z, hj, rfl, rfl, hCb, hO, hzw, hv, hzx, hU⟩ := hrel
    by_cases hlt : j < k
    · have hji : (j : Int) < k := by omega
      have hjm : (j : Int) < m := by omega
      obtain ⟨b, off', rfl, hb, hc⟩ := (hU.num' hA h').cells (by omega)
      have hcj := hc j hlt
      have hco := hO.cell (off + j) (by omega)
      have hzj : z (off + j) = x (off + j) := hzx _ (by omega)
      rw [hzj] at hco
      have hfo := hO.frozen (off + j)
      have hma := fun w => mulAdd_any (y j) n 0 C w (hy j) hn (by decide) hCb
      have bx := hx (off + j)
      have b_y := hy j
      have HO : Hid (Own g N z wr) := hO
      have HU : Hid (Upd g w wr) := hU
      have HZW : Hid (Words z) := hzw
      have HZX : Hid (∀ i, i < off ∨ off + j ≤ i → z i = x i) := hzx
      clear hO hU hc h h' hA hx hy hzw hzx
      go_wp2_with (go_at_call 84; refine (hma _).mono ?_; rintro e w1 ⟨l, hi, rfl, hlh, hlb, hhb, rfl⟩; have hsb := fun w => sub64 (x (off + j)) l 0 bx.1 hlb.1 (by omega) (by decide) (by decide) w; have hbo := bor_01 (x (off + j)) l 0; have hbv := bor_val bx hlb (b := 0) (by decide); have hw := sub_nowrap b_y hn hCb hlh hlb bx; rw [Int.sub_zero] at hsb hbv; generalize bor (x (off + j)) l 0 = bo at *)
      go_roundw
      case rel =>
        refine ⟨j + 1, hi + bo, fun i => if i = off + j then (x (off + j) - l) % 18446744073709551616 else z i, by omega, by go_num, rfl, by omega, HO.out.set (off + j) _, upd_words HZW.out (by omega), ?_, ?_, HU.out.set (off + j) _⟩
        · show _ = _
          rw [seg_next, seg_next, if_pos rfl, seg_congr (z := fun i => if i = off + j then (x (off + j) - l) % 18446744073709551616 else z i) (z' := z) off j fun i h1 h2 => if_neg (by omega), Int.pow_succ]
          exact sub_round hv.out hlh (by omega)
        · intro i hi2
          exact (if_neg (show ¬ i = off + j by omega)).trans (HZX.out i (by omega))
      case measure => simp [intOf]; omega
    · obtain rfl : j = k := by omega
      have HO : Hid (Own g N z wr) := hO
      have HU : Hid (Upd g w wr) := hU
      have HZW : Hid (Words z) := hzw
      have HZX : Hid (∀ i, i < off ∨ off + j ≤ i → z i = x i) := hzx
      clear hO hU h h' hA hx hy hzw hzx
      go_wp2
      go_ret
      exact ⟨C, z, rfl, hCb, HO.out, HZW.out, hv.out, HZX.out, HU.out⟩
end Go.Proofs.YtkefmapcaggefaaDoor
