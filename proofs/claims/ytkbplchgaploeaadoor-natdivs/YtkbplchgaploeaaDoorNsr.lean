/-
  What nat's shiftDown and Shr do: contracts.
-/
import Derived.Test.YtkbplchgaploeaaDoorRgt
set_option linter.unusedVariables false
set_option linter.unusedSimpArgs false
namespace Go.Proofs.YtkbplchgaploeaaDoor
open Go.RowKit

/-- what a word sends down into the one below it -/
def dnW (y : Int) (r : Nat) : Int := IntKind.u64.wrap (y * 2 ^ (64 - r))
theorem shr_or {y : Nat → Int} (hy : Words y) {r : Nat} (hr : r < 64) (q i : Nat) : orW (y (q + i) / 2 ^ r) (dnW (y (q + i + 1)) r) = shrW y q r i := by
  unfold shrW dnW
  by_cases h : r = 0
  · subst h
    rw [if_pos rfl, wrap_mod]
    have e : y (q + i + 1) * 2 ^ (64 - 0) % 18446744073709551616 = 0 := Int.mul_emod_left _ _
    rw [e, Int.pow_zero, Int.ediv_one, orW_zero _ (hy _)]
  · rw [if_neg h]
/-- the words of z, those from k on (and below m) y's, shifted down by r -/
def dnZ (z y : Nat → Int) (r m k j : Nat) : Int := if k ≤ j ∧ j < m then shrW y 0 r j else z j

set_option maxHeartbeats 1000000 in
theorem shiftDown_any (g N m c c' r : Nat) (a' : Option Addr) (z y : Nat → Int) (w : World) (hm : m ≤ N) (hN : N < 4294967296) (hr : r < 64) (h : Own g N z w) (h' : Num w a' m c' y) (hA : Apart a' g) :
    Calls Tryd.prog 50 #[.slice (some ⟨g, 0, none⟩) m c, .slice a' m c', .int .i64 r] w fun e w' => e = .returned (.tuple #[]) ∧ Own g N (dnZ z y r m 0) w' ∧ Upd g w w' := by
  have hy := h'.2.2.1
  have hri : (r : Int) < 64 := by omega
  have e64 : ((64 : Int) - r).toNat = 64 - r := by omega
  have hk0 := h'.2.2.2.1 m (Nat.le_refl _)
  go_enter Tryd.func50, Tryd.ntmps50
  go_wp2
  go_loopw [6, 7] (fun cv i wr => ∃ (k : Nat), k ≤ m ∧ i = .int .i64 ((k : Int) - 1) ∧ cv = .int .u64 (dnW (y k) r) ∧ Own g N (dnZ z y r m k) wr ∧ Upd g w wr) (fun _ i _ => (intOf i + 1).toNat)
  case atStart => exact ⟨m, Nat.le_refl _, by go_num, by rw [hk0]; unfold dnW; rw [Int.zero_mul, wrap_id 0 (by decide)], h.congr fun i _ => by unfold dnZ; rw [if_neg (by omega)], Upd.refl _ _⟩
  case round =>
    obtain ⟨k, hk, rfl, rfl, hO, hU⟩ := hrel
    have hpb : 0 ≤ dnW (y k) r ∧ dnW (y k) r ≤ 18446744073709551615 := wrap_word _
    by_cases h0 : k = 0
    · subst h0
      have HO : Hid (Own g N (dnZ z y r m 0) wr) := hO
      have HU : Hid (Upd g w wr) := hU
      clear hO hU h h' hA hy hk0
      go_wp2
      go_end0
      exact ⟨rfl, HO.out, HU.out⟩
    · obtain ⟨j, rfl⟩ : ∃ j, k = j + 1 := ⟨k - 1, by omega⟩
      have ej : ((j + 1 : Nat) : Int) - 1 = j := by omega
      rw [ej]
      have hjm : (j : Int) < m := by omega
      obtain ⟨b, off', rfl, hb, hc⟩ := (hU.num' hA h').cells (by omega)
      have hcj := hc j (by omega)
      have hco : ∃ u, wr.cell? ⟨g, j, none⟩ = some (.int .u64 u) := ⟨_, hO.cell j (by omega)⟩
      obtain ⟨u, hco⟩ := hco
      have hfo := hO.frozen j
      have b_y := hy j
      have hbg : b ≠ g := hA _ rfl
      have hcj2 : ∀ v, (wr.setCell ⟨g, j, none⟩ v).cell? ⟨b, off' + j, none⟩ = some (.int .u64 (y j)) := fun v => (World.cell?_of_block (w := wr) (a := ⟨b, off' + j, none⟩) (Below.heap_setCell wr ⟨g, j, none⟩ v b hbg)).trans hcj
      have HS : Hid (bits BinOp.or IntKind.u64 (y j / 2 ^ r) (dnW (y (j + 1)) r) = shrW y 0 r j) := by
        show _ = _
        have := shr_or hy hr 0 j
        rw [Nat.zero_add] at this
        exact this
      have HO : Hid (Own g N (dnZ z y r m j) (wr.setCell ⟨g, j, none⟩ (.int .u64 (shrW y 0 r j)))) := (hO.set j _).congr fun i _ => by
        unfold dnZ
        by_cases e : i = j
        · subst e; rw [if_pos rfl, if_pos (by omega)]
        · rw [if_neg e]
          by_cases e2 : j + 1 ≤ i ∧ i < m
          · rw [if_pos e2, if_pos (by omega)]
          · rw [if_neg e2, if_neg (by omega)]
      have HU : Hid (Upd g w (wr.setCell ⟨g, j, none⟩ (.int .u64 (shrW y 0 r j)))) := hU.set j _
      rw [← HS.out] at HO HU
      have HDW : Hid (IntKind.u64.wrap (y j * 2 ^ (64 - r)) = dnW (y j) r) := rfl
      clear hO hU hc h h' hA hy hk0 HS ej
      generalize dnW (y (j + 1)) r = pv at *
      go_wp2
      go_roundw
      case rel => exact ⟨j, by omega, by go_num, by rw [← HDW.out], HO.out, HU.out⟩
      case measure => simp [intOf]

theorem Num.drop {w : World} {b off n c q : Nat} {x : Nat → Int} (h : Num w (some ⟨b, off, none⟩) n c x) (hq : q ≤ n) : Num w (some ⟨b, off + q, none⟩) (n - q) (c - q) (fun i => x (q + i)) := by
  obtain ⟨h1, h2, h3, h4, h5⟩ := h
  refine ⟨by omega, by omega, fun i => h3 (q + i), fun i hi => h4 (q + i) (by omega), ?_⟩
  rcases h5 with ⟨h5, _⟩ | ⟨b', off', h6, h7, h8⟩
  · cases h5
  · cases h6
    exact Or.inr ⟨b, off + q, rfl, h7, fun i hi => by have := h8 (q + i) (by omega); rw [Nat.add_assoc]; exact this⟩
theorem Num.take {w : World} {b off n c q : Nat} {x : Nat → Int} (h : Num w (some ⟨b, off, none⟩) n c x) (hq : q ≤ n) : Num w (some ⟨b, off, none⟩) q c (segW x 0 q) := by
  obtain ⟨h1, h2, h3, h4, h5⟩ := h
  refine ⟨by omega, by omega, segW_words h3 0 q, fun i hi => segW_zero x 0 q i hi, ?_⟩
  rcases h5 with ⟨h5, _⟩ | ⟨b', off', h6, h7, h8⟩
  · cases h5
  · cases h6
    exact Or.inr ⟨b, off, rfl, h7, fun i hi => by rw [h8 i (by omega), segW_lt x 0 q i hi, Nat.zero_add]⟩
theorem num_val_eq {w w' : World} {a a' : Option Addr} {n c n' c' : Nat} {x : Nat → Int} (h : Num w a n c x) (h' : Num w' a' n' c' x) : val x n = val x n' := by
  rw [← val_more h.2.2.2.1 (max n n') (by omega), ← val_more h'.2.2.2.1 (max n n') (by omega)]
theorem out_test {y : Int} {r : Nat} (hr : r < 64) : (IntKind.u64.wrap (y * 2 ^ (64 - r)) != 0) = decide (y % 2 ^ r ≠ 0) := by
  have hp := p2_pos (64 - r)
  have e : y * 2 ^ (64 - r) % 18446744073709551616 = y % 2 ^ r * 2 ^ (64 - r) := by
    have h1 := Int.mul_emod_mul_of_pos y (2 ^ r) hp
    have h2 := p2_split (show r ≤ 64 by omega)
    rw [← h2, Int.mul_comm y, h1, Int.mul_comm]
  rw [wrap_mod, e]
  by_cases h : y % 2 ^ r = 0
  · simp [h]
  · have : y % 2 ^ r * 2 ^ (64 - r) ≠ 0 := Int.mul_ne_zero h (by omega)
    simp [h, this]

set_option maxRecDepth 20000 in
set_option maxHeartbeats 2000000 in
theorem nshr_any (a : Option Addr) (n c q r : Nat) (x : Nat → Int) (d : Int) (w : World) (hn : n < 4000000000) (h : Num w a n c x) (hd : 1 ≤ d) (hq : d / 64 = q) (hr : d % 64 = r) (hqs : q < sizeL x n) :
    Calls Tryd.prog 25 #[.slice a n c, .int .i64 d] w fun e w' => ∃ g k cap, e = .returned (.tuple #[.slice (some ⟨g, 0, none⟩) k cap, .bool (goneB x q r)]) ∧ k ≤ n ∧ Num w' (some ⟨g, 0, none⟩) k cap (shrW x q r) ∧ sizeL (shrW x q r) k = k ∧ Below w.heap.size w w' := by
  have hb := bare_any a n c x w (by omega) h
  have hx := h.2.2.1
  have hle := sizeL_le x n
  have hN := h.bare
  generalize sizeL x n = s at *
  clear h
  have hr64 : r < 64 := by omega
  obtain ⟨b, off, rfl, hbs, hc⟩ := hN.cells (by omega)
  have hcq := hc q hqs
  have bq := hx q
  have hcap := hN.1
  have ht := out_test (y := x q) hr64
  have e64 : ((64 : Int) - r).toNat = 64 - r := by omega
  have hr64i : (r : Int) < 64 := by omega
  have hbt := bare_any (some ⟨b, off, none⟩) q c (segW x 0 q) w (by omega) (hN.take (by omega))
  have es : sizeL (segW x 0 q) q = sizeL x q := sizeL_congr q fun i hi => by rw [segW_lt x 0 q i hi, Nat.zero_add]
  rw [es] at hbt
  have hsq := sizeL_le x q
  obtain ⟨N, hNs⟩ : ∃ N, s - q = N := ⟨_, rfl⟩
  have hNi : (s : Int) - q = N := by omega
  have hmk := fun w => make_any ((s : Int) - q) N hNi (by omega) w
  have hA := apart_of (hN.drop (q := q) (by omega))
  have hO := Own.new w (fun _ => 0) N
  have hBW := below1 w (.cells (arrOf (fun _ => 0) N) 44)
  have hsd := shiftDown_any w.heap.size N N N (c - q) r (some ⟨b, off + q, none⟩) (fun _ => 0) (fun i => x (q + i)) _ (Nat.le_refl _) (by omega) hr64 hO (by have := (hN.drop (q := q) (by omega)).next hBW; rw [hNs] at this; exact this) hA
  have HZ : Hid (∀ j, N ≤ j → shrW x q r j = 0) := fun j hj => shrW_zero hN.2.2.2.1 q r j (by omega)
  have HW : Hid (Words (shrW x q r)) := shrW_words hx q r
  have HD : Hid (∀ i, i < N → dnZ (fun _ => 0) (fun i => x (q + i)) r N 0 i = shrW x q r i) := fun i hi => by
    unfold dnZ; rw [if_pos (by omega)]; unfold shrW; simp only [Nat.zero_add, Nat.add_assoc]
  have HB : Hid (Below w.heap.size w (w.alloc (.cells (arrOf (fun _ => 0) N) 44))) := hBW
  have HNN : Hid (N ≤ s) := by show _ ≤ _; omega
  have hqsi : (q : Int) < s := by omega
  have hqc : (q : Int) ≤ c := by omega
  have HG : Hid (goneB x q r = (decide (0 < sizeL x q) || decide (x q % 2 ^ r ≠ 0))) := rfl
  have fin : ∀ w1, Own w.heap.size N (dnZ (fun _ => 0) (fun i => x (q + i)) r N 0) w1 → ∃ k, k ≤ N ∧ Num w1 (some ⟨w.heap.size, 0, none⟩) k N (shrW x q r) ∧ sizeL (shrW x q r) k = k ∧ Calls Tryd.prog 35 #[.slice (some ⟨w.heap.size, 0, none⟩) N N] w1 fun e w' => e = .returned (.slice (some ⟨w.heap.size, 0, none⟩) k N) ∧ w1 = w' := by
    intro w1 hO1
    have hO2 := hO1.congr HD.out
    have h1 := hO2.num HW.out 0 N N (by omega) (Nat.le_refl _) (by unfold maxLen; omega)
    have e : segW (shrW x q r) 0 N = shrW x q r := by
      funext i
      by_cases hi : i < N
      · rw [segW_lt _ 0 N i hi, Nat.zero_add]
      · rw [segW_zero _ 0 N i (by omega), HZ.out i (by omega)]
    rw [e] at h1
    exact ⟨sizeL (shrW x q r) N, sizeL_le _ _, h1.bare, sizeL_sizeL _ _, bare_any _ N N _ w1 (by omega) h1⟩
  have FIN : Hid (∀ w1, Own w.heap.size N (dnZ (fun _ => 0) (fun i => x (q + i)) r N 0) w1 → ∃ k, k ≤ N ∧ Num w1 (some ⟨w.heap.size, 0, none⟩) k N (shrW x q r) ∧ sizeL (shrW x q r) k = k ∧ Calls Tryd.prog 35 #[.slice (some ⟨w.heap.size, 0, none⟩) N N] w1 fun e w' => e = .returned (.slice (some ⟨w.heap.size, 0, none⟩) k N) ∧ w1 = w') := fin
  clear fin hBW hN hA hO hc hx HZ HW HD es hNi
  generalize dnZ (fun _ => 0) (fun i => x (q + i)) r N 0 = zz at *
  by_cases hm : x q % 2 ^ r = 0
  · have htf : (IntKind.u64.wrap (x q * 2 ^ (64 - r)) != 0) = false := by rw [ht]; simp [hm]
    have HGv : Hid (goneB x q r = decide (0 < sizeL x q)) := by show _ = _; rw [HG.out]; simp [hm]
    generalize sizeL x q = sq at *
    clear ht HG hm
    by_cases hsq0 : sq = 0
    · subst hsq0
      go_enter Tryd.func25, Tryd.ntmps25
      go_wp2_with (first | (go_at_call_of 35 (Value.slice (some ⟨b, off, none⟩) n c); refine hb.mono ?_; rintro e w' ⟨rfl, rfl⟩; clear hb) | (go_at_call_of 35 (Value.slice (some ⟨b, off, none⟩) q c); refine hbt.mono ?_; rintro e w' ⟨rfl, rfl⟩; clear hbt) | (go_at_call 50; refine hsd.mono ?_; rintro e w1 ⟨rfl, hO1, hU1⟩))
      obtain ⟨k, hkN, hNk, hsk, hbr⟩ := FIN.out w1 hO1
      have HB2 : Hid (Below w.heap.size w w1) := HB.out.trans (hU1.below (Nat.le_refl _))
      have HNk : Hid (Num w1 (some ⟨w.heap.size, 0, none⟩) k N (shrW x q r)) := hNk
      clear hO1 hU1 hNk
      go_wp2_with (go_at_call 35; refine hbr.mono ?_; rintro e w3 ⟨rfl, rfl⟩)
      go_ret2
      exact ⟨_, k, N, by rw [HGv.out]; rfl, by have := HNN.out; omega, HNk.out, hsk, HB2.out⟩
    · have hsq0' : (0 : Int) < sq := by omega
      go_enter Tryd.func25, Tryd.ntmps25
      go_wp2_with (first | (go_at_call_of 35 (Value.slice (some ⟨b, off, none⟩) n c); refine hb.mono ?_; rintro e w' ⟨rfl, rfl⟩; clear hb) | (go_at_call_of 35 (Value.slice (some ⟨b, off, none⟩) q c); refine hbt.mono ?_; rintro e w' ⟨rfl, rfl⟩; clear hbt) | (go_at_call 50; refine hsd.mono ?_; rintro e w1 ⟨rfl, hO1, hU1⟩))
      obtain ⟨k, hkN, hNk, hsk, hbr⟩ := FIN.out w1 hO1
      have HB2 : Hid (Below w.heap.size w w1) := HB.out.trans (hU1.below (Nat.le_refl _))
      have HNk : Hid (Num w1 (some ⟨w.heap.size, 0, none⟩) k N (shrW x q r)) := hNk
      clear hO1 hU1 hNk
      go_wp2_with (go_at_call 35; refine hbr.mono ?_; rintro e w3 ⟨rfl, rfl⟩)
      go_ret2
      exact ⟨_, k, N, by rw [HGv.out]; rfl, by have := HNN.out; omega, HNk.out, hsk, HB2.out⟩
  · have htt : (IntKind.u64.wrap (x q * 2 ^ (64 - r)) != 0) = true := by rw [ht]; simp [hm]
    have HGv : Hid (goneB x q r = true) := by show _ = _; rw [HG.out]; simp [hm]
    clear ht HG hm
    go_enter Tryd.func25, Tryd.ntmps25
    go_wp2_with (first | (go_at_call_of 35 (Value.slice (some ⟨b, off, none⟩) n c); refine hb.mono ?_; rintro e w' ⟨rfl, rfl⟩; clear hb) | (go_at_call_of 35 (Value.slice (some ⟨b, off, none⟩) q c); refine hbt.mono ?_; rintro e w' ⟨rfl, rfl⟩; clear hbt) | (go_at_call 50; refine hsd.mono ?_; rintro e w1 ⟨rfl, hO1, hU1⟩))
    obtain ⟨k, hkN, hNk, hsk, hbr⟩ := FIN.out w1 hO1
    have HB2 : Hid (Below w.heap.size w w1) := HB.out.trans (hU1.below (Nat.le_refl _))
    have HNk : Hid (Num w1 (some ⟨w.heap.size, 0, none⟩) k N (shrW x q r)) := hNk
    clear hO1 hU1 hNk
    go_wp2_with (go_at_call 35; refine hbr.mono ?_; rintro e w3 ⟨rfl, rfl⟩)
    go_ret2
    exact ⟨_, k, N, by rw [HGv.out]; rfl, by have := HNN.out; omega, HNk.out, hsk, HB2.out⟩
set_option maxHeartbeats 400000 in
theorem nshr_small (a : Option Addr) (n c : Nat) (x : Nat → Int) (d : Int) (w : World) (hn : n < 4000000000) (h : Num w a n c x) (hd : d < 1) :
    Calls Tryd.prog 25 #[.slice a n c, .int .i64 d] w fun e w' => e = .returned (.tuple #[.slice (some ⟨w.heap.size, 0, none⟩) (sizeL x n) (sizeL x n), .bool false]) ∧ w.alloc (.cells (arrOf x (sizeL x n)) 44) = w' := by
  have ht := ntrim_any a n c x w (by omega) h
  generalize sizeL x n = s at *
  clear h
  go_enter Tryd.func25, Tryd.ntmps25
  go_wp2_with (go_at_call 14; refine ht.mono ?_; rintro e w' ⟨rfl, rfl⟩)
  go_ret2
  exact ⟨rfl, rfl⟩
set_option maxRecDepth 20000 in
set_option maxHeartbeats 400000 in
theorem nshr_all_out (a : Option Addr) (n c : Nat) (x : Nat → Int) (d : Int) (w : World) (hn : n < 4000000000) (h : Num w a n c x) (hd : 1 ≤ d) (hd2 : d ≤ 9223372036854775807) (hq : (sizeL x n : Int) ≤ d / 64) :
    Calls Tryd.prog 25 #[.slice a n c, .int .i64 d] w fun e w' => e = .returned (.tuple #[.slice none 0 0, .bool (decide (0 < sizeL x n))]) ∧ w = w' := by
  have hb := bare_any a n c x w (by omega) h
  generalize sizeL x n = s at *
  clear h
  obtain ⟨q, hq2⟩ : ∃ q : Nat, d / 64 = q := ⟨(d / 64).toNat, by omega⟩
  obtain ⟨r, hr⟩ : ∃ r : Nat, d % 64 = r := ⟨(d % 64).toNat, by omega⟩
  rw [hq2] at hq
  have hqn : s ≤ q := by omega
  have hqm : ¬ q < s := by omega
  have hqb : (q : Int) ≤ 144115188075855871 := by omega
  go_enter Tryd.func25, Tryd.ntmps25
  go_wp2_with (go_at_call 35; refine hb.mono ?_; rintro e w' ⟨rfl, rfl⟩)
  go_ret2
  exact ⟨rfl, rfl⟩

/-- the words of x divided by 2^d; and what is told -/
def shrF (x : Nat → Int) (d : Int) : Nat → Int := if d < 1 then x else shrW x (d / 64).toNat (d % 64).toNat
def shrG (x : Nat → Int) (d : Int) : Bool := if d < 1 then false else goneB x (d / 64).toNat (d % 64).toNat
theorem goneB_out {x : Nat → Int} {n q r : Nat} (zx : ∀ i, n ≤ i → x i = 0) (h : sizeL x n ≤ q) : goneB x q r = decide (0 < sizeL x n) := by
  have z := sizeL_zero n zx
  unfold goneB
  rw [z q h, ← sizeL_sizeL x n, sizeL_more z q h]
  simp
theorem nshr_all (a : Option Addr) (n c : Nat) (x : Nat → Int) (d : Int) (w : World) (hn : n < 4000000000) (h : Num w a n c x) (hd2 : d ≤ 9223372036854775807) :
    Calls Tryd.prog 25 #[.slice a n c, .int .i64 d] w fun e w' => ∃ o k cap, e = .returned (.tuple #[.slice o k cap, .bool (shrG x d)]) ∧ k ≤ n ∧ Num w' o k cap (shrF x d) ∧ sizeL (shrF x d) k = k ∧ Below w.heap.size w w' := by
  have hle := sizeL_le x n
  by_cases hd : d < 1
  · have e1 : shrF x d = x := by unfold shrF; rw [if_pos hd]
    have e2 : shrG x d = false := by unfold shrG; rw [if_pos hd]
    rw [e1, e2]
    refine (nshr_small a n c x d w hn h hd).mono fun e w' hw => ⟨_, sizeL x n, sizeL x n, hw.1, hle, ?_, sizeL_sizeL x n, hw.2 ▸ below1 w _⟩
    rw [← hw.2]
    exact num_of_block (by omega) h.2.2.1 h.bare.2.2.2.1 (arrOf_size _ _) (fun j hj => arrOf_get _ _ _ _)
  · obtain ⟨q, hq⟩ : ∃ q : Nat, d / 64 = q := ⟨(d / 64).toNat, by omega⟩
    obtain ⟨r, hr⟩ : ∃ r : Nat, d % 64 = r := ⟨(d % 64).toNat, by omega⟩
    have e1 : shrF x d = shrW x q r := by unfold shrF; rw [if_neg hd, hq, hr, Int.toNat_natCast, Int.toNat_natCast]
    have e2 : shrG x d = goneB x q r := by unfold shrG; rw [if_neg hd, hq, hr, Int.toNat_natCast, Int.toNat_natCast]
    rw [e1, e2]
    by_cases hqs : q < sizeL x n
    · exact (nshr_any a n c q r x d w hn h (by omega) hq hr hqs).mono fun e w' ⟨g, k, cap, e1, h2, h3, h4, h5⟩ => ⟨_, k, cap, e1, h2, h3, h4, h5⟩
    · have e3 : shrW x q r = fun _ => 0 := by funext j; exact shrW_zero h.bare.2.2.2.1 q r j (by omega)
      rw [e3, goneB_out h.2.2.2.1 (by omega)]
      exact (nshr_all_out a n c x d w hn h (by omega) hd2 (by omega)).mono fun e w' hw => ⟨none, 0, 0, hw.1, Nat.zero_le _, num_none w', rfl, hw.2 ▸ Below.refl _ _⟩
end Go.Proofs.YtkbplchgaploeaaDoor
