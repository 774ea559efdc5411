/-
  Texts that the proof leans on.
-/
import Derived.Test.YtpemdcnneabbfaaGreatDoorJ23
import Derived.Lib.RabinKarpLaws
set_option linter.unusedVariables false
set_option linter.unusedSimpArgs false
set_option linter.unusedSectionVars false
set_option maxRecDepth 20000
namespace Go.Proofs.YtpemdcnneabbfaaGreatDoor
open Go.RowKit
section
/-- the words of z, from off on k of y's that are shifted by r laid over them -/
def upZ (z y : Nat → Int) (r off k j : Nat) : Int := if off ≤ j ∧ j < off + k then shW y r (j - off) else z j
theorem upZ_next (z y : Nat → Int) (r off k j : Nat) : (if j = off + k then shW y r k else upZ z y r off k j) = upZ z y r off (k + 1) j := by
  unfold upZ
  by_cases e : j = off + k
  · subst e
    rw [if_pos rfl, if_pos (by omega)]; congr 1; omega
  · rw [if_neg e]
    by_cases e2 : off ≤ j ∧ j < off + k
    · rw [if_pos e2, if_pos (by omega)]
    · rw [if_neg e2, if_neg (by omega)]

set_option maxHeartbeats 1000000 in
theorem shiftUp_any (g N off m c k c' r : Nat) (a' : Option Addr) (z y : Nat → Int) (w : World) (hm : off + m ≤ N) (hN : N < 4294967296) (hk : k < m) (hr : r < 64) (h : Own g N z w) (h' : Num w a' k c' y) (hA : Apart a' g) :
    Calls Tryz.prog 131 #[.slice (some ⟨g, off, none⟩) m c, .slice a' k c', .int .i64 r] w fun e w' => e = .returned (.tuple #[]) ∧ Own g N (upZ z y r off (k + 1)) w' ∧ Upd g w w' := by
  have hy := h'.2.2.1
  have hri : (r : Int) < 64 := by omega
  have e64 : ((64 : Int) - r).toNat = 64 - r := by omega
  have hk0 := h'.2.2.2.1 k (Nat.le_refl _)
  go_enter Tryz.func131, Tryz.ntmps131
  go_wp2
  go_loopw [6, 7, 8, 11] (fun cv u7 u8 i wr => ∃ (j : Nat), j ≤ k ∧ i = .int .i64 j ∧ cv = .int .u64 (prevW y r j) ∧ Own g N (upZ z y r off j) wr ∧ Upd g w wr) (fun _ _ _ i _ => k - (intOf i).toNat)
  case atStart => exact ⟨0, Nat.zero_le _, rfl, rfl, h.congr fun i _ => by unfold upZ; rw [if_neg (by omega)], Upd.refl _ _⟩
  case round =>
    obtain ⟨j, hj, rfl, rfl, hO, hU⟩ := hrel
    have hpb := prevW_word hy hr j
    by_cases hlt : j < k
    · have hji : (j : Int) < k := by omega
      have hjm : (j : Int) < m := by omega
      obtain ⟨b, off', rfl, hb, hc⟩ := (hU.num' hA h').cells (by omega)
      have hcj := hc j hlt
      have hco : ∃ u, wr.cell? ⟨g, off + j, none⟩ = some (.int .u64 u) := ⟨_, hO.cell (off + j) (by omega)⟩
      obtain ⟨u, hco⟩ := hco
      have hfo := hO.frozen (off + j)
      have b_y := hy j
      have HP : Hid (prevW y r (j + 1) = y j / 2 ^ (64 - r)) := by show _ = _; rw [hiW_eq _ (by omega)]; rfl
      have HS : Hid (bits BinOp.or IntKind.u64 (IntKind.u64.wrap (y j * 2 ^ r)) (prevW y r j) = shW y r j) := by
        show _ = _
        rw [← shW_or hy hr j]
        exact orW_comm _ _ (wrap_word _) hpb
      have HO : Hid (Own g N (upZ z y r off (j + 1)) (wr.setCell ⟨g, off + j, none⟩ (.int .u64 (shW y r j)))) := (hO.set (off + j) _).congr fun i _ => upZ_next z y r off j i
      have HU : Hid (Upd g w (wr.setCell ⟨g, off + j, none⟩ (.int .u64 (shW y r j)))) := hU.set (off + j) _
      rw [← HS.out] at HO HU
      clear hO hU hc h h' hA hy hk0 HS
      generalize prevW y r j = pv at *
      go_wp2
      go_roundw
      case rel => exact ⟨j + 1, by omega, by go_num, by rw [HP.out], HO.out, HU.out⟩
      case measure => simp [intOf]; omega
    · obtain rfl : j = k := by omega
      have hjm : (j : Int) < m := by omega
      have hco : ∃ u, wr.cell? ⟨g, off + j, none⟩ = some (.int .u64 u) := ⟨_, hO.cell (off + j) (by omega)⟩
      obtain ⟨u, hco⟩ := hco
      have hfo := hO.frozen (off + j)
      have e1 : shW y r j = prevW y r j := by unfold shW; rw [hk0]; simp
      have HO : Hid (Own g N (upZ z y r off (j + 1)) (wr.setCell ⟨g, off + j, none⟩ (.int .u64 (prevW y r j)))) := (hO.set (off + j) _).congr fun i _ => by rw [← e1]; exact upZ_next z y r off j i
      have HU : Hid (Upd g w (wr.setCell ⟨g, off + j, none⟩ (.int .u64 (prevW y r j)))) := hU.set (off + j) _
      clear hO hU h h' hA hy hk0 e1
      generalize prevW y r j = pv at *
      go_wp2
      go_end0
      exact ⟨rfl, HO.out, HU.out⟩

theorem bare_own {g N c : Nat} {z : Nat → Int} {w : World} {V : Int} (hO : Own g N z w) (hW : Words z) (hN : N < 4000000000) (hc : N ≤ c) (hc2 : c ≤ maxLen) (hv : val z N = V) :
    ∃ k z', k ≤ N ∧ Num w (some ⟨g, 0, none⟩) k c z' ∧ val z' k = V ∧ sizeL z' k = k ∧ Calls Tryz.prog 100 #[.slice (some ⟨g, 0, none⟩) N c] w fun e w' => e = .returned (.slice (some ⟨g, 0, none⟩) k c) ∧ w = w' := by
  have h := hO.num hW 0 N c (by omega) hc hc2
  refine ⟨sizeL (segW z 0 N) N, segW z 0 N, sizeL_le _ _, h.bare, ?_, sizeL_sizeL _ _, bare_any _ N c _ w (by omega) h⟩
  rw [val_bare, val_congr (x := segW z 0 N) (y := z) N fun i hi => by rw [segW_lt _ 0 N i hi, Nat.zero_add], hv]

set_option maxRecDepth 20000 in
set_option maxHeartbeats 1000000 in
theorem nshl_any (a : Option Addr) (n c : Nat) (x : Nat → Int) (d : Int) (w : World) (hn : n < 4000000000) (h : Num w a n c x) (hd : 0 ≤ d) (hs : (sizeL x n : Int) + (d + 63) / 64 ≤ 2000) :
    Calls Tryz.prog 101 #[.slice a n c, .int .i64 d] w fun e w' => ∃ g k cap z, e = .returned (.tuple #[.slice (some ⟨g, 0, none⟩) k cap, .int .i64 0]) ∧ k ≤ 2001 ∧ Num w' (some ⟨g, 0, none⟩) k cap z ∧ val z k = val x n * 2 ^ d.toNat ∧ sizeL z k = k ∧ Below w.heap.size w w' := by
  have hb := bare_any a n c x w (by omega) h
  rw [← val_bare n]
  have hx := h.2.2.1
  have hle := sizeL_le x n
  have hN := h.bare
  generalize sizeL x n = s at *
  clear h
  obtain ⟨q, hq⟩ : ∃ q : Nat, d / 64 = q := ⟨(d / 64).toNat, by omega⟩
  obtain ⟨r, hr⟩ : ∃ r : Nat, d % 64 = r := ⟨(d % 64).toNat, by omega⟩
  have hr64 : r < 64 := by omega
  have hdn : d.toNat = 64 * q + r := by omega
  rw [hdn]
  obtain ⟨N, hNs⟩ : ∃ N, s + q + 1 = N := ⟨_, rfl⟩
  have hNi : (s : Int) + q + 1 = N := by omega
  have hq2 : (q : Int) ≤ 2000 := by omega
  have hmk := fun w => make_any ((s : Int) + q + 1) N hNi (by omega) w
  have hA := apart_of hN
  have hO := Own.new w (fun _ => 0) N
  have hBW := below1 w (.cells (arrOf (fun _ => 0) N) 23)
  have hsu := shiftUp_any w.heap.size N q (N - q) (N - q) s c r a (fun _ => 0) x _ (by omega) (by omega) (by omega) hr64 hO (hN.next hBW) hA
  have hqN : (q : Int) ≤ N := by omega
  have HVL : Hid (val (upZ (fun _ => 0) x r q (s + 1)) N = val x s * 2 ^ (64 * q + r)) := by
    show _ = _
    rw [← hNs, show s + q + 1 = q + (s + 1) by omega]
    rw [val_congr (y := upW (shW x r) q) (q + (s + 1)) fun i hi => by
      unfold upZ upW
      by_cases e : q ≤ i
      · rw [if_pos (by omega), if_pos e]
      · rw [if_neg (by omega), if_neg e]]
    rw [val_up, sh_end hN.2.2.2.1 r (s + 1) (by omega), Int.mul_assoc, p64]
  have HW : Hid (Words (upZ (fun _ => 0) x r q (s + 1))) := fun i => by
    unfold upZ; split
    · exact shW_words hx hr64 _
    · exact (by decide : (0 : Int) ≤ 0 ∧ (0 : Int) ≤ 18446744073709551615)
  generalize hz : upZ (fun _ => 0) x r q (s + 1) = zz at *
  have HB : Hid (Below w.heap.size w (w.alloc (.cells (arrOf (fun _ => 0) N) 23))) := hBW
  have HNS : Hid (N ≤ 2001) := by show _ ≤ _; omega
  have hup : (s : Int) + q ≤ 2000 := by omega
  have hup2 : 0 < r → (s : Int) + (q + 1) ≤ 2000 := by omega
  clear hBW hN hA hO hNi hz hs hdn hx
  by_cases hr0 : 0 < r
  · have hr0' : (0 : Int) < r := by omega
    have hu := hup2 hr0
    clear hup2
    go_enter Tryz.func101, Tryz.ntmps101
    go_wp2_with (first | (go_at_call_of 100 (Value.slice a n c); refine hb.mono ?_; rintro e w' ⟨rfl, rfl⟩) | (go_at_call 131; refine hsu.mono ?_; rintro e w1 ⟨rfl, hO1, hU1⟩))
    obtain ⟨k, z', hkN, hNk, hvk, hsk, hbr⟩ := bare_own hO1 HW.out (by have := HNS.out; omega) (Nat.le_refl N) (by unfold maxLen; have := HNS.out; omega) HVL.out
    have HB2 : Hid (Below w.heap.size w w1) := HB.out.trans (hU1.below (Nat.le_refl _))
    have HNk : Hid (Num w1 (some ⟨w.heap.size, 0, none⟩) k N z') := hNk
    clear hO1 hU1 hNk
    go_wp2_with (go_at_call 100; refine hbr.mono ?_; rintro e w3 ⟨rfl, rfl⟩)
    go_ret2
    exact ⟨_, k, N, z', rfl, by have := HNS.out; omega, HNk.out, hvk, hsk, HB2.out⟩
  · obtain rfl : r = 0 := by omega
    clear hup2
    go_enter Tryz.func101, Tryz.ntmps101
    go_wp2_with (first | (go_at_call_of 100 (Value.slice a n c); refine hb.mono ?_; rintro e w' ⟨rfl, rfl⟩) | (go_at_call 131; refine hsu.mono ?_; rintro e w1 ⟨rfl, hO1, hU1⟩))
    obtain ⟨k, z', hkN, hNk, hvk, hsk, hbr⟩ := bare_own hO1 HW.out (by have := HNS.out; omega) (Nat.le_refl N) (by unfold maxLen; have := HNS.out; omega) HVL.out
    have HB2 : Hid (Below w.heap.size w w1) := HB.out.trans (hU1.below (Nat.le_refl _))
    have HNk : Hid (Num w1 (some ⟨w.heap.size, 0, none⟩) k N z') := hNk
    clear hO1 hU1 hNk
    go_wp2_with (go_at_call 100; refine hbr.mono ?_; rintro e w3 ⟨rfl, rfl⟩)
    go_ret2
    exact ⟨_, k, N, z', rfl, by have := HNS.out; omega, HNk.out, hvk, hsk, HB2.out⟩
end
section
attribute [local go_sem] setCell_drewN alloc_drewN

/-- whether a bit goes out that is 1 -/
def goneB (x : Nat → Int) (q r : Nat) : Bool := decide (0 < sizeL x q) || decide (x q % 2 ^ r ≠ 0)
/-- the same, of the words below k -/
def goneK (x : Nat → Int) (q r k : Nat) : Bool := if k ≤ q then decide (0 < sizeL x k) else goneB x q r
theorem goneK_zero (x : Nat → Int) (q r : Nat) : goneK x q r 0 = false := by unfold goneK; rw [if_pos (Nat.zero_le _)]; rfl
theorem goneK_lt0 {x : Nat → Int} {q r k : Nat} (h : k < q) (hz : x k = 0) : goneK x q r (k + 1) = goneK x q r k := by
  unfold goneK; rw [if_pos (by omega), if_pos (by omega)]; simp [sizeL, hz]
theorem goneK_lt1 {x : Nat → Int} {q r k : Nat} (h : k < q) (hz : ¬ x k = 0) : goneK x q r (k + 1) = true := by
  unfold goneK; rw [if_pos (by omega)]; simp [sizeL, hz]
theorem goneK_eq (x : Nat → Int) (k r : Nat) : goneK x k r (k + 1) = (goneK x k r k || decide (x k % 2 ^ r ≠ 0)) := by
  unfold goneK; rw [if_neg (by omega), if_pos (Nat.le_refl _)]; rfl
theorem goneK_gt {x : Nat → Int} {q r k : Nat} (h : q < k) : goneK x q r (k + 1) = goneK x q r k := by
  unfold goneK; rw [if_neg (by omega), if_neg (by omega)]
theorem goneK_end {x : Nat → Int} {q r n : Nat} (h : q < n) : goneK x q r n = goneB x q r := by
  unfold goneK; rw [if_neg (by omega)]
theorem and_mask {y : Int} {r : Nat} (hy : 0 ≤ y ∧ y ≤ 18446744073709551615) (hr : r < 64) : bits BinOp.and IntKind.u64 y (2 ^ r - 1) = y % 2 ^ r := by
  have h1 := p2_pos r
  have h2 := p2_le hr
  rw [u64_and _ _ hy.1 (by omega) (by omega) (by omega)]
  obtain ⟨n, rfl⟩ := Int.eq_ofNat_of_zero_le hy.1
  have e : ((2 : Int) ^ r - 1).toNat = 2 ^ r - 1 := by rw [← powCast]; omega
  rw [e, Int.toNat_natCast, Nat.and_two_pow_sub_one_eq_mod, Int.natCast_emod, powCast]
end
section
theorem sizeL_more {x : Nat → Int} {n : Nat} (hz : ∀ i, n ≤ i → x i = 0) : ∀ m, n ≤ m → sizeL x m = sizeL x n
  | 0, h => by have : n = 0 := by omega
               subst this; rfl
  | m + 1, h => by
    by_cases e : n = m + 1
    · subst e; rfl
    · rw [show sizeL x (m + 1) = sizeL x m by simp [sizeL, hz m (by omega)]]
      exact sizeL_more hz m (by omega)

/-- what a word sends down into the one below it -/
def dnW (y : Int) (r : Nat) : Int := IntKind.u64.wrap (y * 2 ^ (64 - r))
theorem shr_or {y : Nat → Int} (hy : Words y) {r : Nat} (hr : r < 64) (q i : Nat) : orW (y (q + i) / 2 ^ r) (dnW (y (q + i + 1)) r) = shrW y q r i := by
  unfold shrW dnW
  by_cases h : r = 0
  · subst h
    rw [if_pos rfl, wrap_mod]
    have e : y (q + i + 1) * 2 ^ (64 - 0) % 18446744073709551616 = 0 := Int.mul_emod_left _ _
    rw [e, Int.pow_zero, Int.ediv_one, orW_zero _ (hy _)]
  · rw [if_neg h]
/-- the words of z, those from k on (and below m) y's, shifted down by r -/
def dnZ (z y : Nat → Int) (r m k j : Nat) : Int := if k ≤ j ∧ j < m then shrW y 0 r j else z j

set_option maxHeartbeats 1000000 in
theorem shiftDown_any (g N m c c' r : Nat) (a' : Option Addr) (z y : Nat → Int) (w : World) (hm : m ≤ N) (hN : N < 4294967296) (hr : r < 64) (h : Own g N z w) (h' : Num w a' m c' y) (hA : Apart a' g) :
    Calls Tryz.prog 106 #[.slice (some ⟨g, 0, none⟩) m c, .slice a' m c', .int .i64 r] w fun e w' => e = .returned (.tuple #[]) ∧ Own g N (dnZ z y r m 0) w' ∧ Upd g w w' := by
  have hy := h'.2.2.1
  have hri : (r : Int) < 64 := by omega
  have e64 : ((64 : Int) - r).toNat = 64 - r := by omega
  have hk0 := h'.2.2.2.1 m (Nat.le_refl _)
  go_enter Tryz.func106, Tryz.ntmps106
  go_wp2
  go_loopw [6, 7] (fun cv i wr => ∃ (k : Nat), k ≤ m ∧ i = .int .i64 ((k : Int) - 1) ∧ cv = .int .u64 (dnW (y k) r) ∧ Own g N (dnZ z y r m k) wr ∧ Upd g w wr) (fun _ i _ => (intOf i + 1).toNat)
  case atStart => exact ⟨m, Nat.le_refl _, by go_num, by rw [hk0]; unfold dnW; rw [Int.zero_mul, wrap_id 0 (by decide)], h.congr fun i _ => by unfold dnZ; rw [if_neg (by omega)], Upd.refl _ _⟩
  case round =>
    obtain ⟨k, hk, rfl, rfl, hO, hU⟩ := hrel
    have hpb : 0 ≤ dnW (y k) r ∧ dnW (y k) r ≤ 18446744073709551615 := wrap_word _
    by_cases h0 : k = 0
    · subst h0
      have HO : Hid (Own g N (dnZ z y r m 0) wr) := hO
      have HU : Hid (Upd g w wr) := hU
      clear hO hU h h' hA hy hk0
      go_wp2
      go_end0
      exact ⟨rfl, HO.out, HU.out⟩
    · obtain ⟨j, rfl⟩ : ∃ j, k = j + 1 := ⟨k - 1, by omega⟩
      have ej : ((j + 1 : Nat) : Int) - 1 = j := by omega
      rw [ej]
      have hjm : (j : Int) < m := by omega
      obtain ⟨b, off', rfl, hb, hc⟩ := (hU.num' hA h').cells (by omega)
      have hcj := hc j (by omega)
      have hco : ∃ u, wr.cell? ⟨g, j, none⟩ = some (.int .u64 u) := ⟨_, hO.cell j (by omega)⟩
      obtain ⟨u, hco⟩ := hco
      have hfo := hO.frozen j
      have b_y := hy j
      have hbg : b ≠ g := hA _ rfl
      have hcj2 : ∀ v, (wr.setCell ⟨g, j, none⟩ v).cell? ⟨b, off' + j, none⟩ = some (.int .u64 (y j)) := fun v => (World.cell?_of_block (w := wr) (a := ⟨b, off' + j, none⟩) (Below.heap_setCell wr ⟨g, j, none⟩ v b hbg)).trans hcj
      have HS : Hid (bits BinOp.or IntKind.u64 (y j / 2 ^ r) (dnW (y (j + 1)) r) = shrW y 0 r j) := by
        show _ = _
        have := shr_or hy hr 0 j
        rw [Nat.zero_add] at this
        exact this
      have HO : Hid (Own g N (dnZ z y r m j) (wr.setCell ⟨g, j, none⟩ (.int .u64 (shrW y 0 r j)))) := (hO.set j _).congr fun i _ => by
        unfold dnZ
        by_cases e : i = j
        · subst e; rw [if_pos rfl, if_pos (by omega)]
        · rw [if_neg e]
          by_cases e2 : j + 1 ≤ i ∧ i < m
          · rw [if_pos e2, if_pos (by omega)]
          · rw [if_neg e2, if_neg (by omega)]
      have HU : Hid (Upd g w (wr.setCell ⟨g, j, none⟩ (.int .u64 (shrW y 0 r j)))) := hU.set j _
      rw [← HS.out] at HO HU
      have HDW : Hid (IntKind.u64.wrap (y j * 2 ^ (64 - r)) = dnW (y j) r) := rfl
      clear hO hU hc h h' hA hy hk0 HS ej
      generalize dnW (y (j + 1)) r = pv at *
      go_wp2
      go_roundw
      case rel => exact ⟨j, by omega, by go_num, by rw [← HDW.out], HO.out, HU.out⟩
      case measure => simp [intOf]

theorem Num.drop {w : World} {b off n c q : Nat} {x : Nat → Int} (h : Num w (some ⟨b, off, none⟩) n c x) (hq : q ≤ n) : Num w (some ⟨b, off + q, none⟩) (n - q) (c - q) (fun i => x (q + i)) := by
  obtain ⟨h1, h2, h3, h4, h5⟩ := h
  refine ⟨by omega, by omega, fun i => h3 (q + i), fun i hi => h4 (q + i) (by omega), ?_⟩
  rcases h5 with ⟨h5, _⟩ | ⟨b', off', h6, h7, h8⟩
  · cases h5
  · cases h6
    exact Or.inr ⟨b, off + q, rfl, h7, fun i hi => by have := h8 (q + i) (by omega); rw [Nat.add_assoc]; exact this⟩
theorem Num.take {w : World} {b off n c q : Nat} {x : Nat → Int} (h : Num w (some ⟨b, off, none⟩) n c x) (hq : q ≤ n) : Num w (some ⟨b, off, none⟩) q c (segW x 0 q) := by
  obtain ⟨h1, h2, h3, h4, h5⟩ := h
  refine ⟨by omega, by omega, segW_words h3 0 q, fun i hi => segW_zero x 0 q i hi, ?_⟩
  rcases h5 with ⟨h5, _⟩ | ⟨b', off', h6, h7, h8⟩
  · cases h5
  · cases h6
    exact Or.inr ⟨b, off, rfl, h7, fun i hi => by rw [h8 i (by omega), segW_lt x 0 q i hi, Nat.zero_add]⟩
theorem out_test {y : Int} {r : Nat} (hr : r < 64) : (IntKind.u64.wrap (y * 2 ^ (64 - r)) != 0) = decide (y % 2 ^ r ≠ 0) := by
  have hp := p2_pos (64 - r)
  have e : y * 2 ^ (64 - r) % 18446744073709551616 = y % 2 ^ r * 2 ^ (64 - r) := by
    have h1 := Int.mul_emod_mul_of_pos y (2 ^ r) hp
    have h2 := p2_split (show r ≤ 64 by omega)
    rw [← h2, Int.mul_comm y, h1, Int.mul_comm]
  rw [wrap_mod, e]
  by_cases h : y % 2 ^ r = 0
  · simp [h]
  · have : y % 2 ^ r * 2 ^ (64 - r) ≠ 0 := Int.mul_ne_zero h (by omega)
    simp [h, this]

set_option maxRecDepth 20000 in
set_option maxHeartbeats 2000000 in
theorem nshr_any (a : Option Addr) (n c q r : Nat) (x : Nat → Int) (d : Int) (w : World) (hn : n < 4000000000) (h : Num w a n c x) (hd : 1 ≤ d) (hq : d / 64 = q) (hr : d % 64 = r) (hqs : q < sizeL x n) :
    Calls Tryz.prog 61 #[.slice a n c, .int .i64 d] w fun e w' => ∃ g k cap, e = .returned (.tuple #[.slice (some ⟨g, 0, none⟩) k cap, .bool (goneB x q r)]) ∧ k ≤ n ∧ Num w' (some ⟨g, 0, none⟩) k cap (shrW x q r) ∧ sizeL (shrW x q r) k = k ∧ Below w.heap.size w w' := by
  have hb := bare_any a n c x w (by omega) h
  have hx := h.2.2.1
  have hle := sizeL_le x n
  have hN := h.bare
  generalize sizeL x n = s at *
  clear h
  have hr64 : r < 64 := by omega
  obtain ⟨b, off, rfl, hbs, hc⟩ := hN.cells (by omega)
  have hcq := hc q hqs
  have bq := hx q
  have hcap := hN.1
  have ht := out_test (y := x q) hr64
  have e64 : ((64 : Int) - r).toNat = 64 - r := by omega
  have hr64i : (r : Int) < 64 := by omega
  have hbt := bare_any (some ⟨b, off, none⟩) q c (segW x 0 q) w (by omega) (hN.take (by omega))
  have es : sizeL (segW x 0 q) q = sizeL x q := sizeL_congr q fun i hi => by rw [segW_lt x 0 q i hi, Nat.zero_add]
  rw [es] at hbt
  have hsq := sizeL_le x q
  obtain ⟨N, hNs⟩ : ∃ N, s - q = N := ⟨_, rfl⟩
  have hNi : (s : Int) - q = N := by omega
  have hmk := fun w => make_any ((s : Int) - q) N hNi (by omega) w
  have hA := apart_of (hN.drop (q := q) (by omega))
  have hO := Own.new w (fun _ => 0) N
  have hBW := below1 w (.cells (arrOf (fun _ => 0) N) 23)
  have hsd := shiftDown_any w.heap.size N N N (c - q) r (some ⟨b, off + q, none⟩) (fun _ => 0) (fun i => x (q + i)) _ (Nat.le_refl _) (by omega) hr64 hO (by have := (hN.drop (q := q) (by omega)).next hBW; rw [hNs] at this; exact this) hA
  have HZ : Hid (∀ j, N ≤ j → shrW x q r j = 0) := fun j hj => shrW_zero hN.2.2.2.1 q r j (by omega)
  have HW : Hid (Words (shrW x q r)) := shrW_words hx q r
  have HD : Hid (∀ i, i < N → dnZ (fun _ => 0) (fun i => x (q + i)) r N 0 i = shrW x q r i) := fun i hi => by
    unfold dnZ; rw [if_pos (by omega)]; unfold shrW; simp only [Nat.zero_add, Nat.add_assoc]
  have HB : Hid (Below w.heap.size w (w.alloc (.cells (arrOf (fun _ => 0) N) 23))) := hBW
  have HNN : Hid (N ≤ s) := by show _ ≤ _; omega
  have hqsi : (q : Int) < s := by omega
  have hqc : (q : Int) ≤ c := by omega
  have HG : Hid (goneB x q r = (decide (0 < sizeL x q) || decide (x q % 2 ^ r ≠ 0))) := rfl
  have fin : ∀ w1, Own w.heap.size N (dnZ (fun _ => 0) (fun i => x (q + i)) r N 0) w1 → ∃ k, k ≤ N ∧ Num w1 (some ⟨w.heap.size, 0, none⟩) k N (shrW x q r) ∧ sizeL (shrW x q r) k = k ∧ Calls Tryz.prog 100 #[.slice (some ⟨w.heap.size, 0, none⟩) N N] w1 fun e w' => e = .returned (.slice (some ⟨w.heap.size, 0, none⟩) k N) ∧ w1 = w' := by
    intro w1 hO1
    have hO2 := hO1.congr HD.out
    have h1 := hO2.num HW.out 0 N N (by omega) (Nat.le_refl _) (by unfold maxLen; omega)
    have e : segW (shrW x q r) 0 N = shrW x q r := by
      funext i
      by_cases hi : i < N
      · rw [segW_lt _ 0 N i hi, Nat.zero_add]
      · rw [segW_zero _ 0 N i (by omega), HZ.out i (by omega)]
    rw [e] at h1
    exact ⟨sizeL (shrW x q r) N, sizeL_le _ _, h1.bare, sizeL_sizeL _ _, bare_any _ N N _ w1 (by omega) h1⟩
  have FIN : Hid (∀ w1, Own w.heap.size N (dnZ (fun _ => 0) (fun i => x (q + i)) r N 0) w1 → ∃ k, k ≤ N ∧ Num w1 (some ⟨w.heap.size, 0, none⟩) k N (shrW x q r) ∧ sizeL (shrW x q r) k = k ∧ Calls Tryz.prog 100 #[.slice (some ⟨w.heap.size, 0, none⟩) N N] w1 fun e w' => e = .returned (.slice (some ⟨w.heap.size, 0, none⟩) k N) ∧ w1 = w') := fin
  clear fin hBW hN hA hO hc hx HZ HW HD es hNi
  generalize dnZ (fun _ => 0) (fun i => x (q + i)) r N 0 = zz at *
  by_cases hm : x q % 2 ^ r = 0
  · have htf : (IntKind.u64.wrap (x q * 2 ^ (64 - r)) != 0) = false := by rw [ht]; simp [hm]
    have HGv : Hid (goneB x q r = decide (0 < sizeL x q)) := by show _ = _; rw [HG.out]; simp [hm]
    generalize sizeL x q = sq at *
    clear ht HG hm
    by_cases hsq0 : sq = 0
    · subst hsq0
      go_enter Tryz.func61, Tryz.ntmps61
      go_wp2_with (first | (go_at_call_of 100 (Value.slice (some ⟨b, off, none⟩) n c); refine hb.mono ?_; rintro e w' ⟨rfl, rfl⟩; clear hb) | (go_at_call_of 100 (Value.slice (some ⟨b, off, none⟩) q c); refine hbt.mono ?_; rintro e w' ⟨rfl, rfl⟩; clear hbt) | (go_at_call 106; refine hsd.mono ?_; rintro e w1 ⟨rfl, hO1, hU1⟩))
      obtain ⟨k, hkN, hNk, hsk, hbr⟩ := FIN.out w1 hO1
      have HB2 : Hid (Below w.heap.size w w1) := HB.out.trans (hU1.below (Nat.le_refl _))
      have HNk : Hid (Num w1 (some ⟨w.heap.size, 0, none⟩) k N (shrW x q r)) := hNk
      clear hO1 hU1 hNk
      go_wp2_with (go_at_call 100; refine hbr.mono ?_; rintro e w3 ⟨rfl, rfl⟩)
      go_ret2
      exact ⟨_, k, N, by rw [HGv.out]; rfl, by have := HNN.out; omega, HNk.out, hsk, HB2.out⟩
    · have hsq0' : (0 : Int) < sq := by omega
      go_enter Tryz.func61, Tryz.ntmps61
      go_wp2_with (first | (go_at_call_of 100 (Value.slice (some ⟨b, off, none⟩) n c); refine hb.mono ?_; rintro e w' ⟨rfl, rfl⟩; clear hb) | (go_at_call_of 100 (Value.slice (some ⟨b, off, none⟩) q c); refine hbt.mono ?_; rintro e w' ⟨rfl, rfl⟩; clear hbt) | (go_at_call 106; refine hsd.mono ?_; rintro e w1 ⟨rfl, hO1, hU1⟩))
      obtain ⟨k, hkN, hNk, hsk, hbr⟩ := FIN.out w1 hO1
      have HB2 : Hid (Below w.heap.size w w1) := HB.out.trans (hU1.below (Nat.le_refl _))
      have HNk : Hid (Num w1 (some ⟨w.heap.size, 0, none⟩) k N (shrW x q r)) := hNk
      clear hO1 hU1 hNk
      go_wp2_with (go_at_call 100; refine hbr.mono ?_; rintro e w3 ⟨rfl, rfl⟩)
      go_ret2
      exact ⟨_, k, N, by rw [HGv.out]; rfl, by have := HNN.out; omega, HNk.out, hsk, HB2.out⟩
  · have htt : (IntKind.u64.wrap (x q * 2 ^ (64 - r)) != 0) = true := by rw [ht]; simp [hm]
    have HGv : Hid (goneB x q r = true) := by show _ = _; rw [HG.out]; simp [hm]
    clear ht HG hm
    go_enter Tryz.func61, Tryz.ntmps61
    go_wp2_with (first | (go_at_call_of 100 (Value.slice (some ⟨b, off, none⟩) n c); refine hb.mono ?_; rintro e w' ⟨rfl, rfl⟩; clear hb) | (go_at_call_of 100 (Value.slice (some ⟨b, off, none⟩) q c); refine hbt.mono ?_; rintro e w' ⟨rfl, rfl⟩; clear hbt) | (go_at_call 106; refine hsd.mono ?_; rintro e w1 ⟨rfl, hO1, hU1⟩))
    obtain ⟨k, hkN, hNk, hsk, hbr⟩ := FIN.out w1 hO1
    have HB2 : Hid (Below w.heap.size w w1) := HB.out.trans (hU1.below (Nat.le_refl _))
    have HNk : Hid (Num w1 (some ⟨w.heap.size, 0, none⟩) k N (shrW x q r)) := hNk
    clear hO1 hU1 hNk
    go_wp2_with (go_at_call 100; refine hbr.mono ?_; rintro e w3 ⟨rfl, rfl⟩)
    go_ret2
    exact ⟨_, k, N, by rw [HGv.out]; rfl, by have := HNN.out; omega, HNk.out, hsk, HB2.out⟩
set_option maxHeartbeats 400000 in
theorem nshr_small (a : Option Addr) (n c : Nat) (x : Nat → Int) (d : Int) (w : World) (hn : n < 4000000000) (h : Num w a n c x) (hd : d < 1) :
    Calls Tryz.prog 61 #[.slice a n c, .int .i64 d] w fun e w' => e = .returned (.tuple #[.slice (some ⟨w.heap.size, 0, none⟩) (sizeL x n) (sizeL x n), .bool false]) ∧ w.alloc (.cells (arrOf x (sizeL x n)) 23) = w' := by
  have ht := ntrim_any a n c x w (by omega) h
  generalize sizeL x n = s at *
  clear h
  go_enter Tryz.func61, Tryz.ntmps61
  go_wp2_with (go_at_call 105; refine ht.mono ?_; rintro e w' ⟨rfl, rfl⟩)
  go_ret2
  exact ⟨rfl, rfl⟩
set_option maxRecDepth 20000 in
set_option maxHeartbeats 400000 in
theorem nshr_all_out (a : Option Addr) (n c : Nat) (x : Nat → Int) (d : Int) (w : World) (hn : n < 4000000000) (h : Num w a n c x) (hd : 1 ≤ d) (hd2 : d ≤ 9223372036854775807) (hq : (sizeL x n : Int) ≤ d / 64) :
    Calls Tryz.prog 61 #[.slice a n c, .int .i64 d] w fun e w' => e = .returned (.tuple #[.slice none 0 0, .bool (decide (0 < sizeL x n))]) ∧ w = w' := by
  have hb := bare_any a n c x w (by omega) h
  generalize sizeL x n = s at *
  clear h
  obtain ⟨q, hq2⟩ : ∃ q : Nat, d / 64 = q := ⟨(d / 64).toNat, by omega⟩
  obtain ⟨r, hr⟩ : ∃ r : Nat, d % 64 = r := ⟨(d % 64).toNat, by omega⟩
  rw [hq2] at hq
  have hqn : s ≤ q := by omega
  have hqm : ¬ q < s := by omega
  have hqb : (q : Int) ≤ 144115188075855871 := by omega
  go_enter Tryz.func61, Tryz.ntmps61
  go_wp2_with (go_at_call 100; refine hb.mono ?_; rintro e w' ⟨rfl, rfl⟩)
  go_ret2
  exact ⟨rfl, rfl⟩

/-- the words of x divided by 2^d; and what is told -/
def shrF (x : Nat → Int) (d : Int) : Nat → Int := if d < 1 then x else shrW x (d / 64).toNat (d % 64).toNat
def shrG (x : Nat → Int) (d : Int) : Bool := if d < 1 then false else goneB x (d / 64).toNat (d % 64).toNat
theorem goneB_out {x : Nat → Int} {n q r : Nat} (zx : ∀ i, n ≤ i → x i = 0) (h : sizeL x n ≤ q) : goneB x q r = decide (0 < sizeL x n) := by
  have z := sizeL_zero n zx
  unfold goneB
  rw [z q h, ← sizeL_sizeL x n, sizeL_more z q h]
  simp
theorem nshr_all (a : Option Addr) (n c : Nat) (x : Nat → Int) (d : Int) (w : World) (hn : n < 4000000000) (h : Num w a n c x) (hd2 : d ≤ 9223372036854775807) :
    Calls Tryz.prog 61 #[.slice a n c, .int .i64 d] w fun e w' => ∃ o k cap, e = .returned (.tuple #[.slice o k cap, .bool (shrG x d)]) ∧ k ≤ n ∧ Num w' o k cap (shrF x d) ∧ sizeL (shrF x d) k = k ∧ Below w.heap.size w w' := by
  have hle := sizeL_le x n
  by_cases hd : d < 1
  · have e1 : shrF x d = x := by unfold shrF; rw [if_pos hd]
    have e2 : shrG x d = false := by unfold shrG; rw [if_pos hd]
    rw [e1, e2]
    refine (nshr_small a n c x d w hn h hd).mono fun e w' hw => ⟨_, sizeL x n, sizeL x n, hw.1, hle, ?_, sizeL_sizeL x n, hw.2 ▸ below1 w _⟩
    rw [← hw.2]
    exact num_of_block (by omega) h.2.2.1 h.bare.2.2.2.1 (arrOf_size _ _) (fun j hj => arrOf_get _ _ _ _)
  · obtain ⟨q, hq⟩ : ∃ q : Nat, d / 64 = q := ⟨(d / 64).toNat, by omega⟩
    obtain ⟨r, hr⟩ : ∃ r : Nat, d % 64 = r := ⟨(d % 64).toNat, by omega⟩
    have e1 : shrF x d = shrW x q r := by unfold shrF; rw [if_neg hd, hq, hr, Int.toNat_natCast, Int.toNat_natCast]
    have e2 : shrG x d = goneB x q r := by unfold shrG; rw [if_neg hd, hq, hr, Int.toNat_natCast, Int.toNat_natCast]
    rw [e1, e2]
    by_cases hqs : q < sizeL x n
    · exact (nshr_any a n c q r x d w hn h (by omega) hq hr hqs).mono fun e w' ⟨g, k, cap, e1, h2, h3, h4, h5⟩ => ⟨_, k, cap, e1, h2, h3, h4, h5⟩
    · have e3 : shrW x q r = fun _ => 0 := by funext j; exact shrW_zero h.bare.2.2.2.1 q r j (by omega)
      rw [e3, goneB_out h.2.2.2.1 (by omega)]
      exact (nshr_all_out a n c x d w hn h (by omega) hd2 (by omega)).mono fun e w' hw => ⟨none, 0, 0, hw.1, Nat.zero_le _, num_none w', rfl, hw.2 ▸ Below.refl _ _⟩
end
section
/-- what is left, and the divisor, by their two highest words and what is below -/
structure Gs (R D u1 u0 v1 v0 P a b : Int) : Prop where
  hR : R = a + (u1 * 18446744073709551616 + u0) * (P * 18446744073709551616)
  hD : D = b + (v1 * 18446744073709551616 + v0) * P
  p : 0 < P
  a0 : 0 ≤ a
  a1 : a < P * 18446744073709551616
  b0 : 0 ≤ b
  b1 : b < P
  u1w : 0 ≤ u1 ∧ u1 ≤ 18446744073709551615
  u0w : 0 ≤ u0 ∧ u0 ≤ 18446744073709551615
  v1w : 9223372036854775808 ≤ v1 ∧ v1 ≤ 18446744073709551615
  v0w : 0 ≤ v0 ∧ v0 ≤ 18446744073709551615
  lt : R < D * 18446744073709551616

section
variable {R D u1 u0 v1 v0 P a b : Int}
theorem Gs.lowR (h : Gs R D u1 u0 v1 v0 P a b) : (u1 * 18446744073709551616 + u0) * 18446744073709551616 * P ≤ R := by
  have := h.hR; have := h.a0
  have e : (u1 * 18446744073709551616 + u0) * 18446744073709551616 * P = (u1 * 18446744073709551616 + u0) * (P * 18446744073709551616) := by grind
  omega
theorem Gs.highR (h : Gs R D u1 u0 v1 v0 P a b) : R < ((u1 * 18446744073709551616 + u0) + 1) * 18446744073709551616 * P := by
  have := h.hR; have := h.a1
  have e : ((u1 * 18446744073709551616 + u0) + 1) * 18446744073709551616 * P = (u1 * 18446744073709551616 + u0) * (P * 18446744073709551616) + P * 18446744073709551616 := by grind
  omega
theorem Gs.lowD (h : Gs R D u1 u0 v1 v0 P a b) : (v1 * 18446744073709551616 + v0) * P ≤ D := by have := h.hD; have := h.b0; omega
theorem Gs.highD (h : Gs R D u1 u0 v1 v0 P a b) : D ≤ (v1 * 18446744073709551616 + v0 + 1) * P := by
  have := h.hD; have := h.b1
  have e : (v1 * 18446744073709551616 + v0 + 1) * P = (v1 * 18446744073709551616 + v0) * P + P := by grind
  omega
theorem Gs.posD (h : Gs R D u1 u0 v1 v0 P a b) : 0 < D := by
  have h1 := h.lowD
  have : 0 < (v1 * 18446744073709551616 + v0) * P := Int.mul_pos (by have := h.v1w; have := h.v0w; omega) h.p
  omega
/-- products of a digit with the divisor, from both sides -/
theorem Gs.times_ge (h : Gs R D u1 u0 v1 v0 P a b) {k N : Int} (hk : 0 ≤ k) (hN : N ≤ k * (v1 * 18446744073709551616 + v0)) : N * P ≤ k * D := by
  have h1 : k * ((v1 * 18446744073709551616 + v0) * P) ≤ k * D := Int.mul_le_mul_of_nonneg_left h.lowD hk
  have h2 : N * P ≤ k * (v1 * 18446744073709551616 + v0) * P := Int.mul_le_mul_of_nonneg_right hN (Int.le_of_lt h.p)
  rw [Int.mul_assoc] at h2
  omega
theorem Gs.times_le (h : Gs R D u1 u0 v1 v0 P a b) {k N : Int} (hk : 0 ≤ k) (hN : k * (v1 * 18446744073709551616 + v0 + 1) ≤ N) : k * D ≤ N * P := by
  have h1 : k * D ≤ k * ((v1 * 18446744073709551616 + v0 + 1) * P) := Int.mul_le_mul_of_nonneg_left h.highD hk
  have h2 : k * (v1 * 18446744073709551616 + v0 + 1) * P ≤ N * P := Int.mul_le_mul_of_nonneg_right hN (Int.le_of_lt h.p)
  rw [Int.mul_assoc] at h2
  omega
/-- the first guess is not too small -/
theorem Gs.first (h : Gs R D u1 u0 v1 v0 P a b) : R < ((u1 * 18446744073709551616 + u0) / v1 + 1) * D := by
  have hv : 0 < v1 := by have := h.v1w; omega
  have h1 := h.highR
  have hq := Int.lt_mul_ediv_self_add (x := u1 * 18446744073709551616 + u0) hv
  have hq0 : 0 ≤ (u1 * 18446744073709551616 + u0) / v1 := Int.ediv_nonneg (by have := h.u1w; have := h.u0w; omega) (Int.le_of_lt hv)
  have := h.v0w
  generalize (u1 * 18446744073709551616 + u0) / v1 = k at *
  have h2 : (u1 * 18446744073709551616 + u0 + 1) * 18446744073709551616 ≤ (k + 1) * (v1 * 18446744073709551616 + v0) := by
    have e : (k + 1) * (v1 * 18446744073709551616 + v0) = (v1 * k + v1) * 18446744073709551616 + (k + 1) * v0 := by grind
    have : 0 ≤ (k + 1) * v0 := Int.mul_nonneg (by omega) (by omega)
    omega
  have h3 := h.times_ge (by omega) h2
  omega
/-- a guess whose product with the second word is too great is too great itself -/
theorem Gs.great (h : Gs R D u1 u0 v1 v0 P a b) {k r : Int} (hk : 0 ≤ k) (he : k * v1 + r = u1 * 18446744073709551616 + u0) (ht : (r + 1) * 18446744073709551616 ≤ k * v0) : R < k * D := by
  have h1 := h.highR
  have h2 : (u1 * 18446744073709551616 + u0 + 1) * 18446744073709551616 ≤ k * (v1 * 18446744073709551616 + v0) := by
    have e : k * (v1 * 18446744073709551616 + v0) = (k * v1) * 18446744073709551616 + k * v0 := by grind
    omega
  have h3 := h.times_ge hk h2
  omega
/-- a guess that stands is at most one too great -/
theorem Gs.stands (h : Gs R D u1 u0 v1 v0 P a b) {k r : Int} (hk : 0 ≤ k) (hk2 : k ≤ 18446744073709551615) (he : k * v1 + r = u1 * 18446744073709551616 + u0) (ht : k * v0 < (r + 1) * 18446744073709551616) : (k - 1) * D ≤ R := by
  have h1 := h.lowR
  by_cases h0 : k = 0
  · subst h0
    have := h.posD
    have : 0 ≤ (u1 * 18446744073709551616 + u0) * 18446744073709551616 * P := Int.mul_nonneg (Int.mul_nonneg (by have := h.u1w; have := h.u0w; omega) (by decide)) (Int.le_of_lt h.p)
    omega
  · have hv := h.v1w
    have hv0 := h.v0w
    have h2 : (k - 1) * (v1 * 18446744073709551616 + v0 + 1) ≤ (u1 * 18446744073709551616 + u0) * 18446744073709551616 := by
      have e : (k - 1) * (v1 * 18446744073709551616 + v0 + 1) = (k * v1) * 18446744073709551616 + k * v0 + k - v1 * 18446744073709551616 - v0 - 1 := by grind
      omega
    have h3 := h.times_le (by omega) h2
    omega
/-- where the highest words are the same the greatest word is at most one too great -/
theorem Gs.full (h : Gs R D u1 u0 v1 v0 P a b) (he : v1 ≤ u1) : (18446744073709551615 - 1) * D ≤ R := by
  have h1 := h.lowR
  have hv := h.v1w
  have hv0 := h.v0w
  have hu0 := h.u0w
  have h2 : (18446744073709551615 - 1) * (v1 * 18446744073709551616 + v0 + 1) ≤ (u1 * 18446744073709551616 + u0) * 18446744073709551616 := by omega
  have h3 := h.times_le (by decide) h2
  omega
end

/-- words shifted down: their value -/
theorem dn_val {y : Nat → Int} (hy : Words y) {r : Nat} (hr : r < 64) : ∀ m, val (shrW y 0 r) m * 2 ^ r + y 0 % 2 ^ r = val y m + y m % 2 ^ r * 18446744073709551616 ^ m
  | 0 => by simp [val]
  | m + 1 => by
    have ih := dn_val hy hr m
    have hp := p2_pos r
    have e1 : shrW y 0 r m = y m / 2 ^ r + y (m + 1) % 2 ^ r * 2 ^ (64 - r) := by
      have h1 := shr_or hy hr 0 m
      rw [Nat.zero_add] at h1
      rw [← h1]
      unfold dnW
      have hme : y (m + 1) * 2 ^ (64 - r) % 18446744073709551616 = y (m + 1) % 2 ^ r * 2 ^ (64 - r) := by
        have h3 := Int.mul_emod_mul_of_pos (y (m + 1)) (2 ^ r) (p2_pos (64 - r))
        rw [← p2_split (show r ≤ 64 by omega), Int.mul_comm (y (m + 1)), h3, Int.mul_comm]
      have hlt : y m / 2 ^ r < 2 ^ (64 - r) := by
        refine Int.ediv_lt_of_lt_mul hp ?_
        rw [p2_split (show r ≤ 64 by omega)]
        have := hy m; omega
      by_cases h0 : r = 0
      · subst h0
        have : y (m + 1) * 2 ^ (64 - 0) % 18446744073709551616 = 0 := Int.mul_emod_left _ _
        rw [wrap_mod, this, orW_zero _ (div_word _ _ (hy m))]
        simp [Int.emod_one]
      · have h64 : 64 - (64 - r) = r := by omega
        have ho := or_shl (y := y (m + 1)) (b := y m / 2 ^ r) (r := 64 - r) (by omega) (hy (m + 1)).1 ⟨(div_word _ _ (hy m)).1, hlt⟩
        rw [ho, hme]; omega
    show (val (shrW y 0 r) m + shrW y 0 r m * 18446744073709551616 ^ m) * 2 ^ r + y 0 % 2 ^ r = val y m + y m * 18446744073709551616 ^ m + y (m + 1) % 2 ^ r * 18446744073709551616 ^ (m + 1)
    have e2 := Int.emod_add_mul_ediv (y m) (2 ^ r)
    have e3 := p2_split (show r ≤ 64 by omega)
    rw [e1, Int.pow_succ]
    generalize (18446744073709551616 : Int) ^ m = Q at *
    generalize y m / 2 ^ r = A at *
    generalize y m % 2 ^ r = A' at *
    generalize y (m + 1) % 2 ^ r = C at *
    generalize y 0 % 2 ^ r = Z at *
    generalize (2 : Int) ^ (64 - r) = T at *
    generalize (2 : Int) ^ r = S at *
    grind
end
section
/-- the guess, put right by the second word -/
def gsL (v1 v0 : Int) : Nat → Int → Int → Int
  | 0, d, r => d
  | f + 1, d, r => if d * v0 / 18446744073709551616 ≤ r then d else if 18446744073709551616 ≤ r + v1 then d - 1 else gsL v1 v0 f (d - 1) (r + v1)
def gsF (u1 u0 v1 v0 : Int) : Int := if v1 ≤ u1 then 18446744073709551615 else gsL v1 v0 2 ((u1 * 18446744073709551616 + u0) / v1) ((u1 * 18446744073709551616 + u0) % v1)

theorem gs_one {d v0 r : Int} (hd : 0 ≤ d) (hr : 0 ≤ r) (h : ¬ d * v0 / 18446744073709551616 ≤ r) : 1 ≤ d := by
  by_cases e : d = 0
  · subst e; rw [Int.zero_mul] at h; omega
  · omega
theorem gsL_spec {R D u1 u0 v1 v0 P a b : Int} (G : Gs R D u1 u0 v1 v0 P a b) : ∀ (f : Nat) (d r : Int), 0 ≤ d → d ≤ 18446744073709551615 → 0 ≤ r → r ≤ 18446744073709551615 → d * v1 + r = u1 * 18446744073709551616 + u0 → R < (d + 1) * D → 18446744073709551616 ≤ r + f * v1 →
    0 ≤ gsL v1 v0 f d r ∧ gsL v1 v0 f d r ≤ 18446744073709551615 ∧ R < (gsL v1 v0 f d r + 1) * D ∧ (gsL v1 v0 f d r - 1) * D ≤ R
  | 0, d, r, h1, h2, h3, h4, he, hR, hf => by simp at hf; omega
  | f + 1, d, r, h1, h2, h3, h4, he, hR, hf => by
    unfold gsL
    by_cases hh : d * v0 / 18446744073709551616 ≤ r
    · rw [if_pos hh]
      exact ⟨h1, h2, hR, G.stands h1 h2 he (by omega)⟩
    · rw [if_neg hh]
      have h11 := gs_one h1 h3 hh
      have hR2 : R < (d - 1 + 1) * D := by
        have := G.great h1 he (by omega)
        rw [show d - 1 + 1 = d by omega]; exact this
      have he2 : (d - 1) * v1 + (r + v1) = u1 * 18446744073709551616 + u0 := by rw [Int.sub_mul]; omega
      have hv := G.v1w
      have hv0 := G.v0w
      by_cases ho : 18446744073709551616 ≤ r + v1
      · rw [if_pos ho]
        refine ⟨by omega, by omega, hR2, G.stands (by omega) (by omega) he2 ?_⟩
        have : (d - 1) * v0 ≤ 18446744073709551615 * 18446744073709551615 := Int.mul_le_mul (by omega) hv0.2 hv0.1 (by decide)
        omega
      · rw [if_neg ho]
        refine gsL_spec G f (d - 1) (r + v1) (by omega) (by omega) (by omega) (by omega) he2 hR2 ?_
        have e : ((f + 1 : Nat) : Int) * v1 = f * v1 + v1 := by rw [Int.natCast_add, Int.add_mul]; simp
        rw [e] at hf
        omega
theorem gsF_spec {R D u1 u0 v1 v0 P a b : Int} (G : Gs R D u1 u0 v1 v0 P a b) : 0 ≤ gsF u1 u0 v1 v0 ∧ gsF u1 u0 v1 v0 ≤ 18446744073709551615 ∧ R < (gsF u1 u0 v1 v0 + 1) * D ∧ (gsF u1 u0 v1 v0 - 1) * D ≤ R := by
  have hv := G.v1w
  have hu := G.u1w
  have hu0 := G.u0w
  unfold gsF
  by_cases h : v1 ≤ u1
  · rw [if_pos h]
    refine ⟨by decide, by decide, ?_, G.full h⟩
    have := G.lt
    rw [Int.mul_comm]; exact this
  · rw [if_neg h]
    have h1 : 0 ≤ (u1 * 18446744073709551616 + u0) / v1 := Int.ediv_nonneg (by omega) (by omega)
    have h2 : (u1 * 18446744073709551616 + u0) / v1 < 18446744073709551616 := Int.ediv_lt_of_lt_mul (by omega) (by omega)
    have h3 := Int.emod_nonneg (u1 * 18446744073709551616 + u0) (show v1 ≠ 0 by omega)
    have h4 := Int.emod_lt_of_pos (u1 * 18446744073709551616 + u0) (show 0 < v1 by omega)
    have h5 := Int.emod_add_mul_ediv (u1 * 18446744073709551616 + u0) v1
    refine gsL_spec G 2 _ _ h1 (by omega) h3 (by omega) ?_ G.first (by omega)
    rw [Int.mul_comm]; omega
theorem drw_add (w : World) (a b : Nat) : (w.drewN a).drewN b = w.drewN (a + b) := by simp [World.drewN, Nat.add_assoc]

set_option maxHeartbeats 1000000 in
theorem guess_any (u1 u0 v1 v0 : Int) (w : World) (hu1 : 0 ≤ u1 ∧ u1 ≤ 18446744073709551615) (hu0 : 0 ≤ u0 ∧ u0 ≤ 18446744073709551615) (hv1 : 9223372036854775808 ≤ v1 ∧ v1 ≤ 18446744073709551615) (hv0 : 0 ≤ v0 ∧ v0 ≤ 18446744073709551615) :
    Calls Tryz.prog 154 #[.int .u64 u1, .int .u64 u0, .int .u64 v1, .int .u64 v0] w fun e w' => e = .returned (.int .u64 (gsF u1 u0 v1 v0)) ∧ ∃ m, w' = w.drewN m := by
  by_cases h : v1 ≤ u1
  · have HG : Hid (gsF u1 u0 v1 v0 = 18446744073709551615) := by show _ = _; unfold gsF; rw [if_pos h]
    go_enter Tryz.func154, Tryz.ntmps154
    go_wp2
    go_ret
    exact ⟨ret_int HG.out.symm, 0, rfl⟩
  · have HG : Hid (gsF u1 u0 v1 v0 = gsL v1 v0 2 ((u1 * 18446744073709551616 + u0) / v1) ((u1 * 18446744073709551616 + u0) % v1)) := by show _ = _; unfold gsF; rw [if_neg h]
    have hd := div64_all u1 u0 v1 w hu1.1 (by omega) hv1.2 hu0
    have h1 : 0 ≤ (u1 * 18446744073709551616 + u0) / v1 := Int.ediv_nonneg (by omega) (by omega)
    have h2 : (u1 * 18446744073709551616 + u0) / v1 < 18446744073709551616 := Int.ediv_lt_of_lt_mul (by omega) (by omega)
    have h3 := Int.emod_nonneg (u1 * 18446744073709551616 + u0) (show v1 ≠ 0 by omega)
    have h4 := Int.emod_lt_of_pos (u1 * 18446744073709551616 + u0) (show 0 < v1 by omega)
    generalize gsF u1 u0 v1 v0 = T at *
    generalize (u1 * 18446744073709551616 + u0) / v1 = d0 at *
    generalize (u1 * 18446744073709551616 + u0) % v1 = r0 at *
    go_enter Tryz.func154, Tryz.ntmps154
    go_wp2_with (go_at_call 38; refine hd.mono ?_; rintro e w' ⟨rfl, m, rfl⟩)
    go_loopw [9, 10, 11, 12, 23] (fun dv rv u11 u12 u23 wr => ∃ (f : Nat) (d r : Int), dv = .int .u64 d ∧ rv = .int .u64 r ∧ 0 ≤ d ∧ d ≤ 18446744073709551615 ∧ 0 ≤ r ∧ r ≤ 18446744073709551615 ∧ 18446744073709551616 ≤ r + f * v1 ∧ Hid (T = gsL v1 v0 f d r) ∧ wr = w.drewN m) (fun dv _ _ _ _ _ => (intOf dv).toNat)
    case atStart => exact ⟨2, d0, r0, rfl, rfl, h1, by omega, h3, by omega, by omega, HG.out, rfl⟩
    case round =>
      clear hd h1 h2 h3 h4 HG
      obtain ⟨f, d, r, rfl, rfl, a1, a2, a3, a4, hf, hT, rfl⟩ := hrel
      obtain ⟨f', rfl⟩ : ∃ f', f = f' + 1 := by
        cases f with
        | zero => simp at hf; omega
        | succ f' => exact ⟨f', rfl⟩
      have hmul := mul64 d v0 ⟨a1, a2⟩ hv0 (w.drewN m)
      have hfe : ((f' + 1 : Nat) : Int) * v1 = f' * v1 + v1 := by rw [Int.natCast_add, Int.add_mul]; simp
      rw [hfe] at hf
      have HF : Hid (18446744073709551616 ≤ r + (f' * v1 + v1)) := hf
      have hh0 : 0 ≤ d * v0 / 18446744073709551616 := Int.ediv_nonneg (Int.mul_nonneg a1 hv0.1) (by decide)
      by_cases hh : d * v0 / 18446744073709551616 ≤ r
      · have HT : Hid (T = d) := by show _ = _; rw [hT.out]; unfold gsL; rw [if_pos hh]
        clear hT hf hfe HF
        generalize d * v0 / 18446744073709551616 = hi at *
        generalize d * v0 % 18446744073709551616 = lo at *
        go_wp2_with (go_at_call 109; refine hmul.mono ?_; rintro e w' ⟨rfl, rfl⟩)
        go_ret
        exact ⟨ret_int HT.out.symm, m, rfl⟩
      · have h11 := gs_one a1 a3 hh
        by_cases ho : 18446744073709551616 ≤ r + v1
        · have HT : Hid (T = d - 1) := by show _ = _; rw [hT.out]; unfold gsL; rw [if_neg hh, if_pos ho]
          have hw : IntKind.u64.wrap (r + v1) = r + v1 - 18446744073709551616 := by rw [wrap_mod]; omega
          have hlt : r + v1 - 18446744073709551616 < v1 := by omega
          clear hT hf hfe HF
          generalize d * v0 / 18446744073709551616 = hi at *
          generalize d * v0 % 18446744073709551616 = lo at *
          go_wp2_with (go_at_call 109; refine hmul.mono ?_; rintro e w' ⟨rfl, rfl⟩)
          go_ret
          exact ⟨ret_int HT.out.symm, m, rfl⟩
        · have HT : Hid (T = gsL v1 v0 f' (d - 1) (r + v1)) := by show _ = _; rw [hT.out]; conv => lhs; unfold gsL
                                                                  rw [if_neg hh, if_neg ho]
          have hlt : ¬ r + v1 < v1 := by omega
          have hle : r + v1 ≤ 18446744073709551615 := by omega
          clear hT hf hfe
          generalize d * v0 / 18446744073709551616 = hi at *
          generalize d * v0 % 18446744073709551616 = lo at *
          go_wp2_with (go_at_call 109; refine hmul.mono ?_; rintro e w' ⟨rfl, rfl⟩)
          go_roundw
          case rel => exact ⟨f', d - 1, r + v1, rfl, rfl, by omega, by omega, by omega, by omega, by have := HF.out; omega, HT, trivial⟩
          case measure => simp [intOf]; omega
end
section
theorem seg_next (z : Nat → Int) (off j : Nat) : val (segW z off (j + 1)) (j + 1) = val (segW z off j) j + z (off + j) * 18446744073709551616 ^ j := by
  show val (segW z off (j + 1)) j + segW z off (j + 1) j * 18446744073709551616 ^ j = _
  rw [segW_lt z off (j + 1) j (by omega), val_congr (x := segW z off (j + 1)) (y := segW z off j) j fun i hi => by rw [segW_lt _ _ _ i (by omega), segW_lt _ _ _ i hi]]
theorem seg_congr {z z' : Nat → Int} (off j : Nat) (h : ∀ i, off ≤ i → i < off + j → z i = z' i) : val (segW z off j) j = val (segW z' off j) j :=
  val_congr j fun i hi => by rw [segW_lt _ _ _ i hi, segW_lt _ _ _ i hi, h (off + i) (by omega) (by omega)]
theorem sub_round {V V0 C n vy yj zj l hi l' bo : Int} {Q : Int} (h : V - C * Q = V0 - n * vy) (hl : l + hi * 18446744073709551616 = yj * n + 0 + C) (hb : l' - bo * 18446744073709551616 = zj - l) :
    V + l' * Q - (hi + bo) * (Q * 18446744073709551616) = V0 + zj * Q - n * (vy + yj * Q) := by grind

theorem sub_nowrap {yj n C l hi zj : Int} (hy : 0 ≤ yj ∧ yj ≤ 18446744073709551615) (hn : 0 ≤ n ∧ n ≤ 18446744073709551615) (hC : 0 ≤ C ∧ C ≤ 18446744073709551615) (hl : l + hi * 18446744073709551616 = yj * n + 0 + C) (hlb : 0 ≤ l ∧ l ≤ 18446744073709551615) (hz : 0 ≤ zj ∧ zj ≤ 18446744073709551615) : hi + bor zj l 0 ≤ 18446744073709551615 := by
  have hp : yj * n ≤ 18446744073709551615 * 18446744073709551615 := Int.mul_le_mul hy.2 hn.2 hn.1 (by decide)
  have hb := bor_01 zj l 0
  by_cases e : hi = 18446744073709551615
  · have e2 : l = 0 := by omega
    have : bor zj l 0 = 0 := by unfold bor; rw [if_neg (by omega)]
    omega
  · omega

set_option maxHeartbeats 1000000 in
theorem subProduct_any (g N off m c k c' : Nat) (a' : Option Addr) (x y : Nat → Int) (n : Int) (w : World) (hm : off + m ≤ N) (hN : N < 4294967296) (hk : k ≤ m) (hx : Words x) (hn : 0 ≤ n ∧ n ≤ 18446744073709551615) (h : Own g N x w) (h' : Num w a' k c' y) (hA : Apart a' g) :
    Calls Tryz.prog 155 #[.slice (some ⟨g, off, none⟩) m c, .slice a' k c', .int .u64 n] w fun e w' => ∃ C z, e = .returned (.int .u64 C) ∧ (0 ≤ C ∧ C ≤ 18446744073709551615) ∧ Own g N z w' ∧ Words z ∧ val (segW z off k) k - C * 18446744073709551616 ^ k = val (segW x off k) k - n * val y k ∧ (∀ i, i < off ∨ off + k ≤ i → z i = x i) ∧ Upd g w w' := by
  have hy := h'.2.2.1
  go_enter Tryz.func155, Tryz.ntmps155
  go_wp2
  go_loopw [7, 8, 9, 10, 11, 12, 15, 20, 27] (fun cv u8 u9 u10 u11 u12 i u20 u27 wr => ∃ (j : Nat) (C : Int) (z : Nat → Int), j ≤ k ∧ i = .int .i64 j ∧ cv = .int .u64 C ∧ (0 ≤ C ∧ C ≤ 18446744073709551615) ∧ Own g N z wr ∧ Words z ∧ Hid (val (segW z off j) j - C * 18446744073709551616 ^ j = val (segW x off j) j - n * val y j) ∧ (∀ i, i < off ∨ off + j ≤ i → z i = x i) ∧ Upd g w wr) (fun _ _ _ _ _ _ i _ _ _ => k - (intOf i).toNat)
  case atStart => exact ⟨0, 0, x, Nat.zero_le _, rfl, rfl, by decide, h, hx, by show _ = _; simp [val], fun _ _ => rfl, Upd.refl _ _⟩
  case round =>
    obtain ⟨j, C, z, hj, rfl, rfl, hCb, hO, hzw, hv, hzx, hU⟩ := hrel
    by_cases hlt : j < k
    · have hji : (j : Int) < k := by omega
      have hjm : (j : Int) < m := by omega
      obtain ⟨b, off', rfl, hb, hc⟩ := (hU.num' hA h').cells (by omega)
      have hcj := hc j hlt
      have hco := hO.cell (off + j) (by omega)
      have hzj : z (off + j) = x (off + j) := hzx _ (by omega)
      rw [hzj] at hco
      have hfo := hO.frozen (off + j)
      have hma := fun w => mulAdd_any (y j) n 0 C w (hy j) hn (by decide) hCb
      have bx := hx (off + j)
      have b_y := hy j
      have HO : Hid (Own g N z wr) := hO
      have HU : Hid (Upd g w wr) := hU
      have HZW : Hid (Words z) := hzw
      have HZX : Hid (∀ i, i < off ∨ off + j ≤ i → z i = x i) := hzx
      clear hO hU hc h h' hA hx hy hzw hzx
      go_wp2_with (go_at_call 146; refine (hma _).mono ?_; rintro e w1 ⟨l, hi, rfl, hlh, hlb, hhb, rfl⟩; have hsb := fun w => sub64 (x (off + j)) l 0 bx.1 hlb.1 (by omega) (by decide) (by decide) w; have hbo := bor_01 (x (off + j)) l 0; have hbv := bor_val bx hlb (b := 0) (by decide); have hw := sub_nowrap b_y hn hCb hlh hlb bx; rw [Int.sub_zero] at hsb hbv; generalize bor (x (off + j)) l 0 = bo at *)
      go_roundw
      case rel =>
        refine ⟨j + 1, hi + bo, fun i => if i = off + j then (x (off + j) - l) % 18446744073709551616 else z i, by omega, by go_num, rfl, by omega, HO.out.set (off + j) _, upd_words HZW.out (by omega), ?_, ?_, HU.out.set (off + j) _⟩
        · show _ = _
          rw [seg_next, seg_next, if_pos rfl, seg_congr (z := fun i => if i = off + j then (x (off + j) - l) % 18446744073709551616 else z i) (z' := z) off j fun i h1 h2 => if_neg (by omega), Int.pow_succ]
          exact sub_round hv.out hlh (by omega)
        · intro i hi2
          exact (if_neg (show ¬ i = off + j by omega)).trans (HZX.out i (by omega))
      case measure => simp [intOf]; omega
    · obtain rfl : j = k := by omega
      have HO : Hid (Own g N z wr) := hO
      have HU : Hid (Upd g w wr) := hU
      have HZW : Hid (Words z) := hzw
      have HZX : Hid (∀ i, i < off ∨ off + j ≤ i → z i = x i) := hzx
      clear hO hU h h' hA hx hy hzw hzx
      go_wp2
      go_ret
      exact ⟨C, z, rfl, hCb, HO.out, HZW.out, hv.out, HZX.out, HU.out⟩
end
section
theorem stp_on {R D dg V0 V1 u1 C Q : Int} (h : V1 - C * Q = V0 - dg * D) (hR : R = V0 + u1 * Q) (h0 : 0 ≤ V1) (hV : V1 < Q) (hD : 0 < D) (hDQ : D < Q) (h1 : R < (dg + 1) * D) (hc : C ≤ u1) : R / D = dg ∧ R % D = V1 := by
  have e : R - dg * D = V1 + (u1 - C) * Q := by rw [Int.sub_mul]; omega
  have e1 : (dg + 1) * D = dg * D + D := by rw [Int.add_mul, Int.one_mul]
  have hk : u1 = C := by
    rcases Int.lt_or_le C u1 with hlt | hge
    · have : 1 * Q ≤ (u1 - C) * Q := Int.mul_le_mul_of_nonneg_right (by omega) (by omega)
      omega
    · omega
  rw [hk, Int.sub_self, Int.zero_mul] at e
  have := (Int.ediv_emod_unique hD (a := R) (r := V1) (q := dg)).2 ⟨by rw [Int.mul_comm]; omega, h0, by omega⟩
  exact this
theorem stp_back {R D dg V0 V1 u1 C Q N1 c : Int} (h : V1 - C * Q = V0 - dg * D) (hR : R = V0 + u1 * Q) (h0 : 0 ≤ V1) (hV : V1 < Q) (hD : 0 < D) (hDQ : D < Q) (h2 : (dg - 1) * D ≤ R) (hc : u1 < C) (hn : N1 + c * Q = V1 + D) (n0 : 0 ≤ N1) (n1 : N1 < Q) : R / D = dg - 1 ∧ R % D = N1 := by
  have e : R - dg * D = V1 + (u1 - C) * Q := by rw [Int.sub_mul]; omega
  have e1 : (dg - 1) * D = dg * D - D := by rw [Int.sub_mul, Int.one_mul]
  have hneg : (C - u1) * Q ≥ 1 * Q := Int.mul_le_mul_of_nonneg_right (by omega) (by omega)
  have e2 : (u1 - C) * Q = - ((C - u1) * Q) := by rw [← Int.neg_mul]; congr 1; omega
  have e3 : N1 - (R - (dg - 1) * D) = (C - u1 - c) * Q := by rw [Int.sub_mul (C - u1) c Q]; omega
  have hk : C - u1 - c = 0 := by
    rcases Int.lt_trichotomy (C - u1 - c) 0 with hl | he | hg
    · have : (C - u1 - c) * Q ≤ (-1) * Q := Int.mul_le_mul_of_nonneg_right (by omega) (by omega)
      omega
    · exact he
    · have : 1 * Q ≤ (C - u1 - c) * Q := Int.mul_le_mul_of_nonneg_right (by omega) (by omega)
      omega
  rw [hk, Int.zero_mul] at e3
  exact (Int.ediv_emod_unique hD (a := R) (r := N1) (q := dg - 1)).2 ⟨by rw [Int.mul_comm]; omega, n0, by omega⟩

set_option maxHeartbeats 2000000 in
theorem divideStep_any (g N off t c c' : Nat) (a' : Option Addr) (z y : Nat → Int) (w : World) (ht : 2 ≤ t) (hm : off + t + 1 ≤ N) (hN : N < 4294967296) (hz : Words z) (h : Own g N z w) (h' : Num w a' t c' y) (hA : Apart a' g) (hy1 : 9223372036854775808 ≤ y (t - 1)) (hlt : val (segW z off (t + 1)) (t + 1) < val y t * 18446744073709551616) :
    Calls Tryz.prog 149 #[.slice (some ⟨g, off, none⟩) (t + 1) c, .slice a' t c'] w fun e w' => e = .returned (.int .u64 (val (segW z off (t + 1)) (t + 1) / val y t)) ∧ ∃ z', Own g N z' w' ∧ Words z' ∧ (∀ i, i < off → z' i = z i) ∧ val (segW z' off t) t = val (segW z off (t + 1)) (t + 1) % val y t ∧ Upd g w w' := by
  have hy := h'.2.2.1
  obtain ⟨p, rfl⟩ : ∃ p, t = p + 2 := ⟨t - 2, by omega⟩
  have hy1' : 9223372036854775808 ≤ y (p + 1) := hy1
  have G : Gs (val (segW z off (p + 2 + 1)) (p + 2 + 1)) (val y (p + 2)) (z (off + (p + 2))) (z (off + (p + 1))) (y (p + 1)) (y p) (18446744073709551616 ^ p) (val (segW z off (p + 1)) (p + 1)) (val y p) := by
    have ba := val_bd (segW_words hz off (p + 1)) (p + 1)
    have bb := val_bd hy p
    refine ⟨?_, ?_, pw_pos p, ba.1, by rw [← Int.pow_succ]; exact ba.2, bb.1, bb.2, hz _, hz _, ⟨hy1', (hy _).2⟩, hy _, hlt⟩
    · rw [seg_next, seg_next, Int.pow_succ, Int.pow_succ, Int.pow_succ]; grind
    · show val y p + y p * 18446744073709551616 ^ p + y (p + 1) * 18446744073709551616 ^ (p + 1) = _
      rw [Int.pow_succ]; grind
  have hsp := gsF_spec G
  have hg := fun w => guess_any (z (off + (p + 2))) (z (off + (p + 1))) (y (p + 1)) (y p) w (hz _) (hz _) ⟨hy1', (hy _).2⟩ (hy _)
  have hposD := G.posD
  have hRe : val (segW z off (p + 2 + 1)) (p + 2 + 1) = val (segW z off (p + 2)) (p + 2) + z (off + (p + 2)) * 18446744073709551616 ^ (p + 2) := seg_next z off (p + 2)
  have hDQ := (val_bd hy (p + 2)).2
  generalize gsF (z (off + (p + 2))) (z (off + (p + 1))) (y (p + 1)) (y p) = dg at *
  generalize hR : val (segW z off (p + 2 + 1)) (p + 2 + 1) = R at *
  obtain ⟨b, off', rfl, hb, hc⟩ := h'.cells (by omega)
  have hv1 := hc (p + 1) (by omega)
  have hv0 := hc p (by omega)
  have hu1 := h.cell (off + (p + 2)) (by omega)
  have hu0 := h.cell (off + (p + 1)) (by omega)
  have bu1 := hz (off + (p + 2))
  have hsub := fun wr hO hN' => subProduct_any g N off (p + 2 + 1) c (p + 2) c' (some ⟨b, off', none⟩) z y dg wr (by omega) hN (by omega) hz ⟨hsp.1, hsp.2.1⟩ hO hN' hA
  have hpi : (0 : Int) ≤ p := by omega
  go_enter Tryz.func149, Tryz.ntmps149
  go_wp2
  go_quiet ((go_at_call 154; exact (hg _).mono fun _ _ h => ⟨h.1, h.2.elim fun m hm => ⟨_, hm.trans (drw_add _ _ _)⟩⟩))
  go_wp2
  have HRe : Hid (R = val (segW z off (p + 2)) (p + 2) + z (off + (p + 2)) * 18446744073709551616 ^ (p + 2)) := hRe
  have HSP : Hid (R < (dg + 1) * val y (p + 2) ∧ (dg - 1) * val y (p + 2) ≤ R) := ⟨hsp.2.2.1, hsp.2.2.2⟩
  have hdg0 := hsp.1
  have hdg1 := hsp.2.1
  have HWY : Hid (Words y) := hy
  have HWZ : Hid (Words z) := hz
  clear hsp hRe G hg hlt hc hv1 hv0 hu0 hy hz hy1 hy1' hR
  go_region_with (go_at_call 155; refine (hsub (w.drewN nq).drew h h').mono ?_; rintro e w1 ⟨C, z1, rfl, hCb, hO1, hw1, hvv, hzx1, hU1⟩; have hct := hO1.cell (off + (p + 2)) (by omega); rw [hzx1 (off + (p + 2)) (by omega)] at hct)
  all_goals
    have hbd := val_bd (segW_words hw1 off (p + 2)) (p + 2)
    by_cases hcc : z (off + (p + 2)) < C
    · have hd1 : 1 ≤ dg := by
        rcases Int.lt_or_le 0 dg with h1 | h1
        · omega
        · exfalso
          have e0 : dg = 0 := by omega
          rw [e0, Int.zero_mul, Int.sub_zero] at hvv
          have h5 := (val_bd (segW_words HWZ.out off (p + 2)) (p + 2)).1
          have h6 : 1 * 18446744073709551616 ^ (p + 2) ≤ C * 18446744073709551616 ^ (p + 2) := Int.mul_le_mul_of_nonneg_right (by omega) (Int.le_of_lt (pw_pos _))
          omega
      have had := addInto_any g N off (p + 2 + 1) c (p + 2) c' (some ⟨b, off', none⟩) z1 y w1 (by omega) hN (by omega) hw1 hO1 (hU1.num' hA h') hA
      have e1 : val (segW (addZ z1 y off (p + 2)) off (p + 2)) (p + 2) = val (sumW (fun i => z1 (off + i)) y) (p + 2) := val_congr _ fun i hi => by
        rw [segW_lt _ _ _ i hi]; unfold addZ; rw [if_pos (by omega)]; congr 1; omega
      have e2 : val (fun i => z1 (off + i)) (p + 2) = val (segW z1 off (p + 2)) (p + 2) := val_congr _ fun i hi => by rw [segW_lt _ _ _ i hi]
      have e3 := sum_val (x := fun i => z1 (off + i)) (y := y) (p + 2)
      rw [e2, ← e1] at e3
      have HAW : Hid (Words (addZ z1 y off (p + 2))) := fun i => by
        unfold addZ; split
        · exact sumW_words _ _ _
        · exact hw1 i
      have hnb := val_bd (segW_words HAW.out off (p + 2)) (p + 2)
      have HQ : Hid (R / val y (p + 2) = dg - 1 ∧ R % val y (p + 2) = val (segW (addZ z1 y off (p + 2)) off (p + 2)) (p + 2)) := stp_back hvv HRe.out hbd.1 hbd.2 hposD hDQ HSP.out.2 hcc e3 hnb.1 hnb.2
      have HU : Hid (Upd g w w1) := ⟨hU1.os, hU1.tape, hU1.output, hU1.size, hU1.block⟩
      have HZX : Hid (∀ i, i < off → addZ z1 y off (p + 2) i = z i) := fun i hi => by
        unfold addZ; rw [if_neg (by omega)]; exact hzx1 i (Or.inl hi)
      clear e1 e2 e3 hnb hbd hvv hzx1 hO1 hw1 hU1 hsub h h' hposD hDQ HRe HSP
      go_wp2_with (go_at_call 135; refine had.mono ?_; rintro e w2 ⟨rfl, hO2, hU2⟩)
      go_ret
      exact ⟨ret_int HQ.out.1.symm, _, hO2, HAW.out, HZX.out, HQ.out.2.symm, HU.out.trans hU2⟩
    · have HQ : Hid (R / val y (p + 2) = dg ∧ R % val y (p + 2) = val (segW z1 off (p + 2)) (p + 2)) := stp_on hvv HRe.out hbd.1 hbd.2 hposD hDQ HSP.out.1 (by omega)
      have HU : Hid (Upd g w w1) := ⟨hU1.os, hU1.tape, hU1.output, hU1.size, hU1.block⟩
      have HO : Hid (Own g N z1 w1) := hO1
      have HW1 : Hid (Words z1) := hw1
      have HZX : Hid (∀ i, i < off → z1 i = z i) := fun i hi => hzx1 i (Or.inl hi)
      clear hbd hvv hzx1 hO1 hw1 hU1 hsub h h' hposD hDQ HRe HSP
      go_wp2
      go_ret
      exact ⟨ret_int HQ.out.1.symm, z1, HO.out, HW1.out, HZX.out, HQ.out.2.symm, HU.out⟩
end
theorem times_val (b off n c b' off' n' c' : Nat) (x y : Nat → Int) (w : World) (hn : n < 1000000) (hn' : n' < 1000000) (h : Num w (some ⟨b, off, none⟩) n c x) (h' : Num w (some ⟨b', off', none⟩) n' c' y) :
    Calls Tryz.prog 67 #[.slice (some ⟨b, off, none⟩) n c, .slice (some ⟨b', off', none⟩) n' c'] w fun e w' => ∃ g k cap z, e = .returned (.slice (some ⟨g, 0, none⟩) k cap) ∧ k ≤ n + n' + 1 ∧ Num w' (some ⟨g, 0, none⟩) k cap z ∧ val z k = val x n * val y n' ∧ Below w.heap.size w w' :=
  (times_raw b off n c b' off' n' c' x y w hn hn' h h').mono fun e w' ⟨g, k, cap, z, e1, hk, hN, hv, hB⟩ => ⟨g, k, cap, z, e1, hk, hN, by rw [← hv, val_more hN.2.2.2.1 _ hk], hB⟩
section
theorem val_one1 (c : Int) : val (oneW c) 1 = c := by simp [val, oneW]
theorem pow_half (s : Int) (m : Nat) : s ^ m = (if m % 2 = 1 then s else 1) * (s * s) ^ (m / 2) := by
  have e : (s * s) ^ (m / 2) = s ^ (2 * (m / 2)) := by rw [Int.pow_mul]; congr 1; rw [Int.pow_succ, Int.pow_succ, Int.pow_zero, Int.one_mul]
  rw [e]
  by_cases h : m % 2 = 1
  · rw [if_pos h, Int.mul_comm, ← Int.pow_succ]; congr 1; omega
  · rw [if_neg h, Int.one_mul]; congr 1; omega

set_option maxHeartbeats 2000000 in
theorem rpow_any (b : Int) (n : Nat) (w : World) (hb : 0 ≤ b ∧ b ≤ 18446744073709551615) (hn : n ≤ 17000) :
    Calls Tryz.prog 76 #[.int .u64 b, .int .i64 n] w fun e w' => ∃ g k cap z, e = .returned (.slice (some ⟨g, 0, none⟩) k cap) ∧ k ≤ 4 * n + 2 ∧ Num w' (some ⟨g, 0, none⟩) k cap z ∧ val z k = b ^ n ∧ Below w.heap.size w w' := by
  have hN1 := num_one w 1 (by decide)
  have hB1 := below1 w (.cells #[.int .u64 1] 23)
  have hN2 := num_one (w.alloc (.cells #[.int .u64 1] 23)) b hb
  have hB2 := below1 (w.alloc (.cells #[.int .u64 1] 23)) (.cells #[.int .u64 b] 23)
  have hN1' := hN1.next hB2
  have hB := hB1.trans (hB2.mono hB1.size)
  have hs : (w.alloc (.cells #[.int .u64 1] 23)).heap.size = w.heap.size + 1 := by simp
  rw [hs] at hN2
  have HB : Hid (Below w.heap.size w ((w.alloc (.cells #[.int .u64 1] 23)).alloc (.cells #[.int .u64 b] 23))) := hB
  clear hN1 hB1 hB2 hB hs
  go_enter Tryz.func76, Tryz.ntmps76
  go_wp2
  generalize (w.alloc (.cells #[.int .u64 1] 23)).alloc (.cells #[.int .u64 b] 23) = wA at *
  go_loopw [1, 5, 6] (fun nv ov sv wr => ∃ (m P g1 k1 p1 g2 k2 p2 : Nat) (z1 z2 : Nat → Int), nv = .int .i64 m ∧ m ≤ n ∧ 1 ≤ P ∧ m * P ≤ n ∧ P ≤ 2 * n + 1 ∧ ov = .slice (some ⟨g1, 0, none⟩) k1 p1 ∧ sv = .slice (some ⟨g2, 0, none⟩) k2 p2 ∧ k1 + 1 ≤ 2 * P ∧ k2 + 1 ≤ 2 * P ∧ Num wr (some ⟨g1, 0, none⟩) k1 p1 z1 ∧ Num wr (some ⟨g2, 0, none⟩) k2 p2 z2 ∧ Hid (val z1 k1 * val z2 k2 ^ m = b ^ n) ∧ Below w.heap.size w wr) (fun nv _ _ _ => (intOf nv).toNat)
  case atStart => exact ⟨n, 1, w.heap.size, 1, 1, w.heap.size + 1, 1, 1, oneW 1, oneW b, rfl, Nat.le_refl _, Nat.le_refl _, by omega, by omega, rfl, rfl, by omega, by omega, hN1', hN2, by show _ = _; rw [val_one1, val_one1, Int.one_mul], HB.out⟩
  case round =>
    clear hN1' hN2 HB
    obtain ⟨m, P, g1, k1, p1, g2, k2, p2, z1, z2, rfl, hmn, hP, hmP, hP2, rfl, rfl, hk1, hk2, hN1, hN2, hv, hB⟩ := hrel
    by_cases h0 : m = 0
    · subst h0
      have HV : Hid (val z1 k1 = b ^ n) := by show _ = _; have := hv.out; simpa using this
      have HN1 : Hid (Num wr (some ⟨g1, 0, none⟩) k1 p1 z1) := hN1
      clear hN1 hN2 hv
      go_wp2
      go_ret
      exact ⟨g1, k1, p1, z1, rfl, by omega, HN1.out, HV.out, hB⟩
    · have hm0 : (0 : Int) < m := by omega
      have hPn : P ≤ n := by
        have : 1 * P ≤ m * P := Nat.mul_le_mul_right P (by omega)
        omega
      have hq2 : (m : Int) / 2 = ((m / 2 : Nat) : Int) := by omega
      have hr2 : (m : Int) % 2 = ((m % 2 : Nat) : Int) := by omega
      have hmP' : m / 2 * (2 * P) ≤ n := by
        have h1 : m / 2 * 2 ≤ m := Nat.div_mul_le_self m 2
        have h2 : m / 2 * 2 * P ≤ m * P := Nat.mul_le_mul_right P h1
        rw [← Nat.mul_assoc]; omega
      have HPH : Hid (val z2 k2 ^ m = (if m % 2 = 1 then val z2 k2 else 1) * (val z2 k2 * val z2 k2) ^ (m / 2)) := pow_half _ _
      have tt := fun wr (hb : Below w.heap.size w wr) h1 h2 => times_val g1 0 k1 p1 g2 0 k2 p2 z1 z2 wr (by omega) (by omega) h1 h2
      have ts := fun wr (hb : Below w.heap.size w wr) h2 => times_val g2 0 k2 p2 g2 0 k2 p2 z2 z2 wr (by omega) (by omega) h2 h2
      generalize hq : m / 2 = q at *
      by_cases hodd : m % 2 = 1
      · rw [hodd] at hr2
        rw [if_pos hodd] at HPH
        have t1 := tt wr hB hN1 hN2
        by_cases hq0 : q = 0
        · subst hq0
          have hq00 : (m : Int) / 2 = 0 := hq2
          clear hq2
          go_wp2_with (go_at_call 67; refine t1.mono ?_; rintro e w1 ⟨g3, k3, p3, z3, rfl, hk3, hN3, hv3, hb1⟩; clear tt t1)
          have HV3 : Hid (val z3 k3 * val z2 k2 ^ 0 = b ^ n) := by
            show _ = _
            rw [hv3, ← hv.out, HPH.out]; simp
          have HN3 : Hid (Num w1 (some ⟨g3, 0, none⟩) k3 p3 z3) := hN3
          have HN2 : Hid (Num w1 (some ⟨g2, 0, none⟩) k2 p2 z2) := hN2.next hb1
          have hB1 := hB.trans (hb1.mono hB.size)
          clear hN1 hN2 hN3 hv hv3 ts
          go_roundw
          case rel => exact ⟨0, 2 * P, g3, k3, p3, g2, k2, p2, z3, z2, rfl, by omega, by omega, by omega, by omega, rfl, rfl, by omega, by omega, HN3.out, HN2.out, HV3, hB1⟩
          case measure => simp [intOf]; omega
        · have hq0' : (0 : Int) < q := by omega
          go_wp2_with (go_at_call 67; refine t1.mono ?_; rintro e w1 ⟨g3, k3, p3, z3, rfl, hk3, hN3, hv3, hb1⟩; clear tt t1)
          have hB1 := hB.trans (hb1.mono hB.size)
          have hN21 := hN2.next hb1
          have t2 := ts w1 hB1 hN21
          go_wp2_with (go_at_call 67; refine t2.mono ?_; rintro e w2 ⟨g4, k4, p4, z4, rfl, hk4, hN4, hv4, hb2⟩; clear ts t2)
          have HV3 : Hid (val z3 k3 * val z4 k4 ^ q = b ^ n) := by
            show _ = _
            rw [hv3, hv4, ← hv.out, HPH.out, Int.mul_assoc]
          have HN3 : Hid (Num w2 (some ⟨g3, 0, none⟩) k3 p3 z3) := hN3.next hb2
          have HN4 : Hid (Num w2 (some ⟨g4, 0, none⟩) k4 p4 z4) := hN4
          have hB2 := hB1.trans (hb2.mono hB1.size)
          clear hN1 hN2 hN3 hN21 hN4 hv hv3 hv4
          go_roundw
          case rel => exact ⟨q, 2 * P, g3, k3, p3, g4, k4, p4, z3, z4, rfl, by omega, by omega, by omega, by omega, rfl, rfl, by omega, by omega, HN3.out, HN4.out, HV3, hB2⟩
          case measure => simp [intOf]; omega
      · have h20 : m % 2 = 0 := by omega
        rw [h20] at hr2
        rw [if_neg hodd, Int.one_mul] at HPH
        have hq0' : (0 : Int) < q := by omega
        have t2 := ts wr hB hN2
        go_wp2_with (go_at_call 67; refine t2.mono ?_; rintro e w2 ⟨g4, k4, p4, z4, rfl, hk4, hN4, hv4, hb2⟩; clear ts tt t2)
        have HV3 : Hid (val z1 k1 * val z4 k4 ^ q = b ^ n) := by
          show _ = _
          rw [hv4, ← hv.out, HPH.out]
        have HN3 : Hid (Num w2 (some ⟨g1, 0, none⟩) k1 p1 z1) := hN1.next hb2
        have HN4 : Hid (Num w2 (some ⟨g4, 0, none⟩) k4 p4 z4) := hN4
        have hB2 := hB.trans (hb2.mono hB.size)
        clear hN1 hN2 hN4 hv hv4
        go_roundw
        case rel => exact ⟨q, 2 * P, g1, k1, p1, g4, k4, p4, z1, z4, rfl, by omega, by omega, by omega, by omega, rfl, rfl, by omega, by omega, HN3.out, HN4.out, HV3, hB2⟩
        case measure => simp [intOf]; omega
end
section
theorem p10_posN (n : Nat) : (0 : Int) < 10 ^ n := Int.pow_pos (by decide)

theorem val_ones : ∀ t, val (fun _ => 18446744073709551615) t = 18446744073709551616 ^ t - 1
  | 0 => by simp [val]
  | t + 1 => by
    show val (fun _ => 18446744073709551615) t + 18446744073709551615 * 18446744073709551616 ^ t = 18446744073709551616 ^ (t + 1) - 1
    rw [val_ones t, Int.pow_succ]; omega
/-- a trimmed number below B^t has t words at most -/
theorem size_bound {z : Nat → Int} (hz : Words z) {k t : Nat} (hs : sizeL z k = k) (hv : val z k < 18446744073709551616 ^ t) : k ≤ t := by
  rcases Nat.lt_or_ge t k with h | h
  · have := val_longer (x := fun _ => 18446744073709551615) (fun _ => (by decide : (0 : Int) ≤ 18446744073709551615 ∧ (18446744073709551615 : Int) ≤ 18446744073709551615)) hz h hs
    rw [val_ones] at this; omega
  · exact h
theorem p19 : ∀ t : Nat, (10 : Int) ^ (19 * t) ≤ 18446744073709551616 ^ t
  | 0 => by simp
  | t + 1 => by
    have ih := p19 t
    have e : (10 : Int) ^ (19 * (t + 1)) = 10 ^ (19 * t) * 10000000000000000000 := by rw [Nat.mul_add, Int.pow_add]; rfl
    rw [e, Int.pow_succ]
    have h0 := pw_pos t
    have h1 := p10_posN (19 * t)
    generalize (18446744073709551616 : Int) ^ t = A at *
    generalize (10 : Int) ^ (19 * t) = B at *
    omega
theorem pow_le10 {b : Int} (hb : 0 ≤ b) (hb2 : b ≤ 10) : ∀ e : Nat, 0 ≤ b ^ e ∧ b ^ e ≤ 10 ^ e
  | 0 => by simp
  | e + 1 => by
    have ih := pow_le10 hb hb2 e
    rw [Int.pow_succ, Int.pow_succ]
    exact ⟨Int.mul_nonneg ih.1 hb, Int.mul_le_mul ih.2 hb2 hb (Int.le_of_lt (p10_posN e))⟩
theorem pow_small {b : Int} (hb : 0 ≤ b) (hb2 : b ≤ 10) {e : Nat} (he : e ≤ 12000) : b ^ e < 18446744073709551616 ^ 632 := by
  have h1 := (pow_le10 hb hb2 e).2
  have h2 := p19 632
  have h3 : (10 : Int) ^ e < 10 ^ (19 * 632) := by
    obtain ⟨k, hk⟩ : ∃ k, 19 * 632 = e + 1 + k := ⟨19 * 632 - (e + 1), by omega⟩
    rw [hk, Int.pow_add, Int.pow_succ]
    have := p10_posN e
    have h4 := p10_posN k
    have h5 : (10 : Int) ^ e * 10 * 1 ≤ 10 ^ e * 10 * 10 ^ k := Int.mul_le_mul_of_nonneg_left (by omega) (by omega)
    omega
  exact Int.lt_of_lt_of_le (Int.lt_of_le_of_lt h1 h3) h2

set_option maxHeartbeats 1000000 in
theorem npow_two (n : Nat) (w : World) (hn : n ≤ 12000) :
    Calls Tryz.prog 87 #[.int .i64 2, .int .i64 n] w fun e w' => ∃ g k cap z, e = .returned (.tuple #[.slice (some ⟨g, 0, none⟩) k cap, .int .i64 0]) ∧ k ≤ 2001 ∧ Num w' (some ⟨g, 0, none⟩) k cap z ∧ val z k = 2 ^ n ∧ sizeL z k = k ∧ Below w.heap.size w w' := by
  have hN1 := num_one w 1 (by decide)
  have hs : sizeL (oneW 1) 1 = 1 := by simp [sizeL, oneW]
  have hsh := nshl_any _ 1 1 (oneW 1) n _ (by omega) hN1 (by omega) (by rw [hs]; omega)
  rw [val_one1, Int.one_mul, Int.toNat_natCast] at hsh
  have HB := below1 w (.cells #[.int .u64 1] 23)
  have hn' : (n : Int) ≤ 12000 := by omega
  clear hN1 hs
  go_enter Tryz.func87, Tryz.ntmps87
  go_wp2_with (go_at_call 101; refine hsh.mono ?_; rintro e w' ⟨g, k, cap, z, rfl, hk, hN, hv, hs, hB⟩)
  go_ret2
  exact ⟨g, k, cap, z, rfl, hk, hN, hv, hs, HB.trans (hB.mono HB.size)⟩

set_option maxHeartbeats 2000000 in
theorem npow_any (b : Int) (n : Nat) (w : World) (hb : b = 5 ∨ b = 10) (hn : n ≤ 12000) :
    Calls Tryz.prog 87 #[.int .i64 b, .int .i64 n] w fun e w' => ∃ g k cap z, e = .returned (.tuple #[.slice (some ⟨g, 0, none⟩) k cap, .int .i64 0]) ∧ k ≤ 2001 ∧ Num w' (some ⟨g, 0, none⟩) k cap z ∧ val z k = b ^ n ∧ sizeL z k = k ∧ Below w.heap.size w w' := by
  have hb0 : 0 ≤ b ∧ b ≤ 10 := by omega
  have hbc : b = 5 ∨ b = 10 := hb
  have hb2 : (b == 2) = false := by simp; omega
  have hN1 := num_one w 1 (by decide)
  have hBB := below1 w (.cells #[.int .u64 1] 23)
  have hn' : (n : Int) ≤ 12000 := by omega
  have hlen := Tryz.bits_Len n (w.alloc (.cells #[.int .u64 1] 23)) (by omega) (by omega)
  rw [Int.toNat_natCast] at hlen
  obtain ⟨L, hL⟩ : ∃ L, Lib.bitLen n = L := ⟨_, rfl⟩
  have hL64 : L ≤ 64 := by rw [← hL]; exact bitLen64 n
  have HLn : Hid (n / 2 ^ L = 0) := by
    show _ = _
    by_cases h0 : n = 0
    · subst h0; simp
    · have := bitLen_spec n (by omega) (by omega)
      rw [hL] at this
      exact Nat.div_eq_of_lt this.2.2.2
  rw [hL] at hlen
  clear hL
  have HS1 : Hid (sizeL (oneW 1) 1 = 1) := by show _ = _; simp [sizeL, oneW]
  have hne : (b != 2) = true := by simp; omega
  have hpick : (b != 5) = true ∧ (b != 10) = false ∨ (b != 5) = false := by rcases hb with rfl | rfl <;> decide
  have hps : ∀ e, e ≤ 12000 → b ^ e < 18446744073709551616 ^ 632 := fun e he => pow_small hb0.1 hb0.2 he
  have HPS : Hid (∀ e, e ≤ 12000 → b ^ e < 18446744073709551616 ^ 632) := hps
  clear hps hb
  rcases hpick with ⟨h5, h10⟩ | h5
  all_goals
    go_enter Tryz.func87, Tryz.ntmps87
    go_wp2_with (go_at_call 119; refine hlen.mono ?_; rintro e w' ⟨rfl, rfl⟩)
    generalize w.alloc (.cells #[.int .u64 1] 23) = wA at *
    go_loopw [6, 7, 40, 51] (fun pv iv u40 u51 wr => ∃ (k kk g p : Nat) (z : Nat → Int), k ≤ L ∧ iv = .int .i64 ((k : Int) - 1) ∧ pv = .slice (some ⟨g, 0, none⟩) kk p ∧ kk ≤ 632 ∧ Num wr (some ⟨g, 0, none⟩) kk p z ∧ sizeL z kk = kk ∧ Hid (val z kk = b ^ (n / 2 ^ k)) ∧ Below w.heap.size w wr) (fun _ iv _ _ _ => (intOf iv + 1).toNat)
    case atStart => exact ⟨L, 1, w.heap.size, 1, oneW 1, Nat.le_refl _, by go_num, rfl, by omega, hN1, HS1.out, by show _ = _; rw [val_one1, HLn.out, Int.pow_zero], hBB⟩
    case round =>
      clear hN1 hBB hlen
      obtain ⟨k, kk, g, p, z, hk, rfl, rfl, hkk, hN, hs, hv, hB⟩ := hrel
      by_cases h0 : k = 0
      · subst h0
        have HV : Hid (val z kk = b ^ n) := by show _ = _; have := hv.out; simpa using this
        have HN : Hid (Num wr (some ⟨g, 0, none⟩) kk p z) := hN
        have HS : Hid (sizeL z kk = kk) := hs
        clear hN hv hs
        go_wp2
        go_ret2
        exact ⟨g, kk, p, z, rfl, by omega, HN.out, HV.out, HS.out, hB⟩
      · obtain ⟨j, rfl⟩ : ∃ j, k = j + 1 := ⟨k - 1, by omega⟩
        have ej : ((j + 1 : Nat) : Int) - 1 = j := by omega
        rw [ej]
        obtain ⟨e, he⟩ : ∃ e, n / 2 ^ j = e := ⟨_, rfl⟩
        have hcast : (n : Int) / 2 ^ j = (e : Int) := by rw [← he, Int.natCast_ediv, powCast]
        have hen : e ≤ n := by rw [← he]; exact Nat.div_le_self _ _
        have hand := Go.Proofs.and_one e (by omega)
        have hhalf : n / 2 ^ (j + 1) = e / 2 := by rw [Nat.pow_succ, ← Nat.div_div_eq_div_mul, he]
        have m1 := nmul_any (some ⟨g, 0, none⟩) (some ⟨g, 0, none⟩) kk p kk p z z wr (by omega) (by omega) hN hN (by omega)
        have HV1 : Hid (val z kk * val z kk = b ^ (2 * (e / 2))) := by
          show _ = _
          rw [hv.out, hhalf, ← Int.pow_add]; congr 1; omega
        have HJ : Hid (j ≤ L) := by show _ ≤ _; omega
        have HE : Hid (n / 2 ^ j = e) := he
        clear ej he hhalf hN hs hv
        by_cases hodd : e % 2 = 1
        · rw [hodd] at hand
          go_wp2_with (go_at_call 88; refine m1.mono ?_; rintro e' w1 ⟨g1, k1, p1, z1, rfl, hk1, hN1, hv1, hs1, hb1⟩; clear m1)
          rw [HV1.out] at hv1
          have hk1b : k1 ≤ 632 := size_bound hN1.2.2.1 hs1 (by rw [hv1]; exact HPS.out _ (by omega))
          have hB1 := hB.trans (hb1.mono hB.size)
          have hNb := num_one w1 b (by omega)
          have hbb := below1 w1 (.cells #[.int .u64 b] 23)
          have hsb := sizeL_le (oneW b) 1
          have m2 := nmul_any (some ⟨g1, 0, none⟩) (some ⟨w1.heap.size, 0, none⟩) k1 p1 1 1 z1 (oneW b) (w1.alloc (.cells #[.int .u64 b] 23)) (by omega) (by omega) (hN1.next hbb) hNb (by omega)
          have HBB : Hid (Below w.heap.size w (w1.alloc (.cells #[.int .u64 b] 23))) := hB1.trans (hbb.mono hB1.size)
          clear hN1 hNb hbb
          go_wp2_with (go_at_call 88; refine m2.mono ?_; rintro e' w2 ⟨g2, k2, p2, z2, rfl, hk2, hN2, hv2, hs2, hb2⟩; clear m2)
          have hv3 : val z2 k2 = b ^ e := by
            rw [hv2, hv1, val_one1, ← Int.pow_succ]; congr 1; omega
          have hk2b : k2 ≤ 632 := size_bound hN2.2.2.1 hs2 (by rw [hv3]; exact HPS.out _ (by omega))
          have hB2 := HBB.out.trans (hb2.mono HBB.out.size)
          have HN2 : Hid (Num w2 (some ⟨g2, 0, none⟩) k2 p2 z2) := hN2
          clear hN2
          go_roundw
          case rel => exact ⟨j, k2, g2, p2, z2, HJ.out, by go_num, rfl, hk2b, HN2.out, hs2, by show _ = _; rw [HE.out, hv3], hB2⟩
          case measure => simp [intOf]
        · have he0 : e % 2 = 0 := by omega
          rw [he0] at hand
          go_wp2_with (go_at_call 88; refine m1.mono ?_; rintro e' w1 ⟨g1, k1, p1, z1, rfl, hk1, hN1, hv1, hs1, hb1⟩; clear m1)
          have hv3 : val z1 k1 = b ^ e := by
            rw [hv1, HV1.out]; congr 1; omega
          have hk1b : k1 ≤ 632 := size_bound hN1.2.2.1 hs1 (by rw [hv3]; exact HPS.out _ (by omega))
          have hB1 := hB.trans (hb1.mono hB.size)
          have HN1 : Hid (Num w1 (some ⟨g1, 0, none⟩) k1 p1 z1) := hN1
          clear hN1
          go_roundw
          case rel => exact ⟨j, k1, g1, p1, z1, HJ.out, by go_num, rfl, hk1b, HN1.out, hs1, by show _ = _; rw [HE.out, hv3], hB1⟩
          case measure => simp [intOf]
end
end Go.Proofs.YtpemdcnneabbfaaGreatDoor
