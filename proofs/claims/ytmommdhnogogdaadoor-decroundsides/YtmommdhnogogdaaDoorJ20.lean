/-
  Texts that the proof leans on, joined: Uc, Dt.
-/
import Derived.Test.YtmommdhnogogdaaDoorJ15
import Derived.Test.YtmommdhnogogdaaDoorJ17
import Derived.Test.YtmommdhnogogdaaDoorJ19
import Derived.Test.YtmommdhnogogdaaDoorJ1
import Derived.Test.YtmommdhnogogdaaDoorJ7
set_option linter.unusedVariables false
set_option linter.unusedSectionVars false
set_option linter.unusedSimpArgs false
set_option maxRecDepth 20000
namespace Go.Proofs.YtmommdhnogogdaaDoor
open Go.RowKit
attribute [local irreducible] NT NV
set_option maxHeartbeats 2000000 in
theorem rpow_ntw (b n : Nat) (w : World) (hb0 : b ≠ 0) (hb : b < 18446744073709551616) (hn : n ≤ 60000) :
    Calls Tryd.prog 53 #[.int .u64 (b : Int), .int .i64 (n : Int)] w fun e w' => ∃ v, e = .returned v ∧ NT (4 * n + 2) (b ^ n) v w' ∧ Below w.heap.size w w' := by
  have hN1 := (nt_unit (W := w) (g := w.heap.size) (V := 1) (vi := 1) rfl rfl (by decide) (by decide)).next (below1 _ (.cells #[.int .u64 (b : Int)] 26))
  have hN2 := nt_unit (W := w.alloc (.cells #[.int .u64 1] 26)) (g := w.heap.size + 1) (V := b) (vi := (b : Int)) (by simp) rfl hb hb0
  have HB : Hid (Below w.heap.size w ((w.alloc (.cells #[.int .u64 1] 26)).alloc (.cells #[.int .u64 (b : Int)] 26))) := ((Below.refl _ _).alloc (Nat.le_refl _) _).alloc (by simp) _
  go_enter Tryd.func53, Tryd.ntmps53
  go_wp2
  generalize (w.alloc (.cells #[.int .u64 1] 26)).alloc (.cells #[.int .u64 (b : Int)] 26) = wA at *
  go_loopw [1, 5, 6] (fun nv ov sv wr => ∃ (m P X Y : Nat), nv = .int .i64 (m : Int) ∧ m ≤ n ∧ 1 ≤ P ∧ m * P ≤ n ∧ P ≤ 2 * n + 1 ∧ NT (2 * P - 1) X ov wr ∧ NT (2 * P - 1) Y sv wr ∧ Hid (X * Y ^ m = b ^ n) ∧ Below w.heap.size w wr) (fun nv _ _ _ => (intOf nv).toNat)
  case atStart => exact ⟨n, 1, 1, b, rfl, Nat.le_refl _, Nat.le_refl _, by omega, by omega, hN1, hN2, by show _ = _; rw [Nat.one_mul], HB.out⟩
  case round =>
    clear hN1 hN2 HB
    obtain ⟨m, P, X, Y, rfl, hmn, hP, hmP, hP2, hN1, hN2, hv, hB⟩ := hrel
    by_cases h0 : m = 0
    · subst h0
      have HV : Hid (X = b ^ n) := by show _ = _; have := hv.out; rw [Nat.pow_zero, Nat.mul_one] at this; exact this
      clear hN2 hv
      go_wp2
      go_ret
      exact ⟨_, rfl, by rw [← HV.out]; exact hN1.more (by omega), hB⟩
    · have hm0 : (0 : Int) < m := by omega
      have hPn : P ≤ n := by
        have : 1 * P ≤ m * P := Nat.mul_le_mul_right P (by omega)
        omega
      have hq2 : (m : Int) / 2 = ((m / 2 : Nat) : Int) := by omega
      have hr2 : (m : Int) % 2 = ((m % 2 : Nat) : Int) := by omega
      have hmP' : m / 2 * (2 * P) ≤ n := by
        have h1 : m / 2 * 2 ≤ m := Nat.div_mul_le_self m 2
        have h2 : m / 2 * 2 * P ≤ m * P := Nat.mul_le_mul_right P h1
        rw [← Nat.mul_assoc]; omega
      have HPH : Hid (Y ^ m = (if m % 2 = 1 then Y else 1) * (Y * Y) ^ (m / 2)) := nat_half _ _
      generalize hq : m / 2 = q at *
      by_cases hodd : m % 2 = 1
      · rw [hodd] at hr2
        rw [if_pos hodd] at HPH
        have t1 := rtimes_nt (by omega) (by omega) hN1.nv hN2.nv
        by_cases hq0 : q = 0
        · subst hq0
          have hq00 : (m : Int) / 2 = 0 := hq2
          clear hq2
          go_wp2_with (go_at_call 16; refine t1.mono ?_; rintro e w1 ⟨r1, rfl, hr1, hb1⟩; clear t1)
          have HV3 : Hid (X * Y * Y ^ 0 = b ^ n) := by
            show _ = _
            rw [← hv.out, HPH.out]; simp
          have hN2' := hN2.next hb1
          have hB1 := hB.trans (hb1.mono hB.size)
          clear hN1 hN2 hv
          go_roundw
          case rel => exact ⟨0, 2 * P, X * Y, Y, rfl, by omega, by omega, by omega, by omega, hr1.more (by omega), hN2'.more (by omega), HV3, hB1⟩
          case measure => simp [intOf]; omega
        · have hq0' : (0 : Int) < q := by omega
          go_wp2_with (go_at_call 16; refine t1.mono ?_; rintro e w1 ⟨r1, rfl, hr1, hb1⟩; clear t1)
          have hB1 := hB.trans (hb1.mono hB.size)
          have hN21 := hN2.next hb1
          have t2 := rtimes_nt (by omega) (by omega) hN21.nv hN21.nv
          go_wp2_with (go_at_call 16; refine t2.mono ?_; rintro e w2 ⟨r2, rfl, hr2', hb2⟩; clear t2)
          have HV3 : Hid (X * Y * (Y * Y) ^ q = b ^ n) := by
            show _ = _
            rw [← hv.out, HPH.out, Nat.mul_assoc]
          have hr1' := hr1.next hb2
          have hB2 := hB1.trans (hb2.mono hB1.size)
          clear hN1 hN2 hN21 hr1 hv
          go_roundw
          case rel => exact ⟨q, 2 * P, X * Y, Y * Y, rfl, by omega, by omega, by omega, by omega, hr1'.more (by omega), hr2'.more (by omega), HV3, hB2⟩
          case measure => simp [intOf]; omega
      · have h20 : m % 2 = 0 := by omega
        rw [h20] at hr2
        rw [if_neg hodd, Nat.one_mul] at HPH
        have hq0' : (0 : Int) < q := by omega
        have t2 := rtimes_nt (by omega) (by omega) hN2.nv hN2.nv
        go_wp2_with (go_at_call 16; refine t2.mono ?_; rintro e w2 ⟨r2, rfl, hr2', hb2⟩; clear t2)
        have HV3 : Hid (X * (Y * Y) ^ q = b ^ n) := by
          show _ = _
          rw [← hv.out, HPH.out]
        have hN1' := hN1.next hb2
        have hB2 := hB.trans (hb2.mono hB.size)
        clear hN1 hN2 hv
        go_roundw
        case rel => exact ⟨q, 2 * P, X, Y * Y, rfl, by omega, by omega, by omega, by omega, hN1'.more (by omega), hr2'.more (by omega), HV3, hB2⟩
        case measure => simp [intOf]; omega
theorem rpowT (n : Nat) (w : World) (hn : n ≤ 60000) : Calls Tryd.prog 53 #[.int .u64 10, .int .i64 (n : Int)] w fun e w' => ∃ v, e = .returned v ∧ NT 4000 (10 ^ n) v w' ∧ Below w.heap.size w w' :=
  (rpow_ntw 10 n w (by decide) (by decide) hn).mono fun r w' ⟨v, e1, e2, e3⟩ => ⟨v, e1, e2.tight (by have := ten_bl n; omega), e3⟩
set_option maxHeartbeats 400000 in
theorem rpower10w (n : Nat) (w : World) (hn : n ≤ 60000) : Calls Tryd.prog 34 #[.int .u64 10, .int .i64 (n : Int)] w fun r w' => ∃ v, r = .returned v ∧ NT 4000 (10 ^ n) v w' ∧ Below w.heap.size w w' := by
  have c19 := rpowT n w hn
  go_enter Tryd.func34, Tryd.ntmps34
  go_wp2_with (go_at_call 53; refine c19.mono ?_; rintro r w1 ⟨v, rfl, hv, hb1⟩)
  go_ret
  exact ⟨v, rfl, hv, hb1⟩
section
variable (x : Int) (vn vd : Value) (A KK : Nat) (w : World) (hx : -60000 ≤ x ∧ x ≤ 60000)
include hx
set_option maxHeartbeats 1000000 in
theorem rsx10_pos (h : 0 ≤ x)
    (c79 : Calls Tryd.prog 34 #[.int .u64 10, .int .i64 x] w fun e w' => ∃ p, e = .returned p ∧ Below w.heap.size w w' ∧ Calls Tryd.prog 16 #[vn, p] w' fun e w'' => ∃ r, e = .returned r ∧ NT KK A r w'' ∧ Below w'.heap.size w' w'') :
    Calls Tryd.prog 13 #[vn, vd, .int .u64 10, .int .i64 x] w fun e w' => ∃ r, e = .returned (.tuple #[r, vd]) ∧ NT KK A r w' ∧ Below w.heap.size w w' := by
  have e1 : max x (-60000) = x := by omega
  have e2 : min x 60000 = x := by omega
  go_enter Tryd.func13, Tryd.ntmps13
  go_wp2_with (first
    | (go_at_call 34; refine c79.mono ?_; rintro e w1 ⟨p, rfl, hb1, c17⟩)
    | (go_at_call 16; refine c17.mono ?_; rintro e w2 ⟨r, rfl, hr, hb2⟩))
  exact bodyPost_ret (v := .tuple #[r, vd]) (by simp only [results, Tryd.results13]; go_simp) rfl ⟨_, rfl, hr, hb1.trans (hb2.mono hb1.size)⟩
set_option maxHeartbeats 1000000 in
theorem rsx10_neg (m : Int) (hm : m = -x) (h : ¬ 0 ≤ x)
    (c79 : Calls Tryd.prog 34 #[.int .u64 10, .int .i64 m] w fun e w' => ∃ p, e = .returned p ∧ Below w.heap.size w w' ∧ Calls Tryd.prog 16 #[vd, p] w' fun e w'' => ∃ r, e = .returned r ∧ NT KK A r w'' ∧ Below w'.heap.size w' w'') :
    Calls Tryd.prog 13 #[vn, vd, .int .u64 10, .int .i64 x] w fun e w' => ∃ r, e = .returned (.tuple #[vn, r]) ∧ NT KK A r w' ∧ Below w.heap.size w w' := by
  have e1 : max x (-60000) = x := by omega
  have e2 : min x 60000 = x := by omega
  subst hm
  go_enter Tryd.func13, Tryd.ntmps13
  go_wp2_with (first
    | (go_at_call 34; refine c79.mono ?_; rintro e w1 ⟨p, rfl, hb1, c17⟩)
    | (go_at_call 16; refine c17.mono ?_; rintro e w2 ⟨r, rfl, hr, hb2⟩))
  exact bodyPost_ret (v := .tuple #[vn, r]) (by simp only [results, Tryd.results13]; go_simp) rfl ⟨_, rfl, hr, hb1.trans (hb2.mono hb1.size)⟩
end
/-- a fraction times a power of ten, the document's -/
theorem rscaleT {N D : Nat} {vn vd : Value} {w : World} (x : Int) (hx : -60000 ≤ x ∧ x ≤ 60000) (h : NT 7000 N vn w) (h' : NT 7000 D vd w) (hN : bl N ≤ 200000) (hD : bl D ≤ 200000) :
    Calls Tryd.prog 13 #[vn, vd, .int .u64 10, .int .i64 x] w fun e w' => ∃ a b, e = .returned (.tuple #[a, b]) ∧ NT 7000 (N * 10 ^ x.toNat) a w' ∧ NT 7000 (D * 10 ^ (-x).toNat) b w' ∧ Below w.heap.size w w' := by
  by_cases hp : 0 ≤ x
  · have c79 := rpower10w x.toNat w (by omega)
    rw [show ((x.toNat : Nat) : Int) = x by omega] at c79
    rw [show (-x).toNat = 0 by omega, Nat.pow_zero, Nat.mul_one]
    have b1 := bl_mul N (10 ^ x.toNat)
    have b2 := ten_bl x.toNat
    exact (rsx10_pos x vn vd (N * 10 ^ x.toNat) 7000 w hx hp (c79.mono fun e w' ⟨p, e1, e2, e3⟩ => ⟨p, e1, e3, (rtimes_nt (by decide) (by decide) (h.next e3).nv e2.nv).mono fun e w'' ⟨r, f1, f2, f3⟩ => ⟨r, f1, f2.tight (by omega), f3⟩⟩)).mono fun e w' ⟨r, e1, e2, e3⟩ => ⟨_, _, e1, e2, h'.next e3, e3⟩
  · have c79 := rpower10w (-x).toNat w (by omega)
    rw [show (((-x).toNat : Nat) : Int) = -x by omega] at c79
    rw [show x.toNat = 0 by omega, Nat.pow_zero, Nat.mul_one]
    have b1 := bl_mul D (10 ^ (-x).toNat)
    have b2 := ten_bl (-x).toNat
    exact (rsx10_neg x vn vd (D * 10 ^ (-x).toNat) 7000 w hx (-x) rfl hp (c79.mono fun e w' ⟨p, e1, e2, e3⟩ => ⟨p, e1, e3, (rtimes_nt (by decide) (by decide) (h'.next e3).nv e2.nv).mono fun e w'' ⟨r, f1, f2, f3⟩ => ⟨r, f1, f2.tight (by omega), f3⟩⟩)).mono fun e w' ⟨r, e1, e2, e3⟩ => ⟨_, _, e1, h.next e3, e2, e3⟩
/-- the first digit's place lies within three bits a digit -/
theorem tnG_up {N D : Nat} {E : Int} (hD : 0 < D) (h : tnG N D E) : 3 * E ≤ bl N := by
  rcases Int.lt_or_le E 0 with q | q
  · omega
  · unfold tnG at h
    rw [show (-E).toNat = 0 by omega, Nat.pow_zero, Nat.mul_one] at h
    have h1 : 10 ^ E.toNat ≤ N := Nat.le_trans (Nat.le_mul_of_pos_left _ hD) h
    have h2 : N < 2 ^ bl N := bl_le.1 (Nat.le_refl _)
    have h3 : (8 : Nat) ^ E.toNat ≤ 10 ^ E.toNat := Nat.pow_le_pow_left (by decide) _
    have h4 : (2 : Nat) ^ (3 * E.toNat) < 2 ^ bl N := by
      rw [Nat.pow_mul]
      exact Nat.lt_of_le_of_lt (Nat.le_trans h3 h1) h2
    have := (Nat.pow_lt_pow_iff_right (a := 2) (by decide)).1 h4
    omega
theorem tnG_dn {N D : Nat} {E : Int} (hN : 0 < N) (h : ¬ tnG N D E) : -(bl D : Int) ≤ 3 * E := by
  rcases Int.lt_or_le 0 E with q | q
  · omega
  · unfold tnG at h
    rw [show E.toNat = 0 by omega, Nat.pow_zero, Nat.mul_one] at h
    have h1 : 10 ^ (-E).toNat < D := by
      have : 10 ^ (-E).toNat ≤ N * 10 ^ (-E).toNat := Nat.le_mul_of_pos_left _ hN
      omega
    have h2 : D < 2 ^ bl D := bl_le.1 (Nat.le_refl _)
    have h3 : (8 : Nat) ^ (-E).toNat ≤ 10 ^ (-E).toNat := Nat.pow_le_pow_left (by decide) _
    have h4 : (2 : Nat) ^ (3 * (-E).toNat) < 2 ^ bl D := by
      rw [Nat.pow_mul]
      exact Nat.lt_of_le_of_lt (Nat.le_trans h3 (Nat.le_of_lt h1)) h2
    have := (Nat.pow_lt_pow_iff_right (a := 2) (by decide)).1 h4
    omega
set_option maxHeartbeats 4000000 in
theorem rtensW (vn vd : Value) (LN LD E : Int) (w : World) (T : Int → Prop) (hL : 0 ≤ LN ∧ LN ≤ 150000 ∧ 0 ≤ LD ∧ LD ≤ 150000) (hE : -59000 ≤ E ∧ E ≤ 59000) (t1 : ∀ e, e ≤ E → T e) (t2 : ∀ e, E < e → ¬ T e)
    (c56n : ∀ W, Below w.heap.size w W → Calls Tryd.prog 71 #[vn] W fun r w' => r = .returned (.int .i64 LN) ∧ W = w')
    (c56d : ∀ W, Below w.heap.size w W → Calls Tryd.prog 71 #[vd] W fun r w' => r = .returned (.int .i64 LD) ∧ W = w')
    (cy : ∀ W e (y : Int), y = -e → -59900 ≤ e ∧ e ≤ 59900 → T e → Below w.heap.size w W → Calls Tryd.prog 13 #[vn, vd, .int .u64 10, .int .i64 y] W fun r w' => ∃ a b, r = .returned (.tuple #[a, b]) ∧ (Calls Tryd.prog 15 #[a, b] w' fun r w'' => ∃ sv : Int, r = .returned (.int .i64 sv) ∧ ¬ sv < 0 ∧ w' = w'') ∧ Below W.heap.size W w')
    (cn : ∀ W e (y : Int), y = -e → -59900 ≤ e ∧ e ≤ 59900 → ¬ T e → Below w.heap.size w W → Calls Tryd.prog 13 #[vn, vd, .int .u64 10, .int .i64 y] W fun r w' => ∃ a b, r = .returned (.tuple #[a, b]) ∧ (Calls Tryd.prog 15 #[a, b] w' fun r w'' => ∃ sv : Int, r = .returned (.int .i64 sv) ∧ sv < 0 ∧ w' = w'') ∧ Below W.heap.size W w') :
    Calls Tryd.prog 51 #[vn, vd] w fun r w' => r = .returned (.int .i64 E) ∧ Below w.heap.size w w' := by
  have hgs := gs_bd (LN - LD) (by omega)
  have HG : Hid (-59000 ≤ ((LN - LD) * 30103).tdiv 100000 ∧ ((LN - LD) * 30103).tdiv 100000 ≤ 59000) := by
    show _ ∧ _
    by_cases h0 : 0 ≤ LN - LD
    · rw [Int.tdiv_eq_ediv_of_nonneg (by omega)]; omega
    · rw [show (LN - LD) * 30103 = -(-(LN - LD) * 30103) by omega, Int.neg_tdiv, Int.tdiv_eq_ediv_of_nonneg (by omega)]; omega
  go_enter Tryd.func51, Tryd.ntmps51
  go_wp2_with (first
    | (go_at_call_of 71 vn; refine (c56n _ bgo).mono ?_; rintro r w1 ⟨rfl, rfl⟩)
    | (go_at_call_of 71 vd; refine (c56d _ bgo).mono ?_; rintro r w1 ⟨rfl, rfl⟩))
  have hg := HG.out
  generalize ((LN - LD) * 30103).tdiv 100000 = e0 at *
  clear hgs HG c56n c56d
  rename World => w
  go_loopw [5] (fun t5 wr => ∃ e : Int, t5 = .int .i64 e ∧ -59000 ≤ e ∧ e ≤ 59000 ∧ Below w.heap.size w wr) (fun t5 _ => (intOf t5 - E).natAbs)
  case atStart => exact ⟨e0, rfl, hg.1, hg.2, Below.refl _ _⟩
  case round =>
    obtain ⟨e, rfl, h1, h2, hB⟩ := hrel
    by_cases hlt : E < e
    · have c30 := cn wr e (-e) rfl (by omega) (t2 e hlt) hB
      go_wp2_with (first
        | (go_at_call 13; refine c30.mono ?_; rintro r w1 ⟨a1, b1, rfl, c38, hb1⟩)
        | (go_at_call 15; refine c38.mono ?_; rintro r w2 ⟨sv, rfl, hsv, rfl⟩))
      go_roundw
      case rel => exact ⟨e - 1, by go_num, by omega, by omega, bnx hB hb1⟩
      case measure => simp [intOf]; omega
    · have c30 := cy wr e (-e) rfl (by omega) (t1 e (by omega)) hB
      by_cases heq : e = E
      · subst heq
        have c30b := fun W (hW : Below w.heap.size w W) => cn W (e + 1) (-e - 1) (by omega) (by omega) (t2 _ (by omega)) hW
        go_wp2_with (first
          | (go_at_call 13; refine (c30b _ (bnx hB hb1)).mono ?_; rintro r w3 ⟨a2, b2, rfl, d38, hb3⟩)
          | (go_at_call 13; refine c30.mono ?_; rintro r w1 ⟨a1, b1, rfl, c38, hb1⟩)
          | (go_at_call 15; refine d38.mono ?_; rintro r w4 ⟨sv2, rfl, hsv2, rfl⟩)
          | (go_at_call 15; refine c38.mono ?_; rintro r w2 ⟨sv, rfl, hsv, rfl⟩))
        go_ret
        exact ⟨rfl, bnx (bnx hB hb1) hb3⟩
      · have c30b := fun W (hW : Below w.heap.size w W) => cy W (e + 1) (-e - 1) (by omega) (by omega) (t1 _ (by omega)) hW
        go_wp2_with (first
          | (go_at_call 13; refine (c30b _ (bnx hB hb1)).mono ?_; rintro r w3 ⟨a2, b2, rfl, d38, hb3⟩)
          | (go_at_call 13; refine c30.mono ?_; rintro r w1 ⟨a1, b1, rfl, c38, hb1⟩)
          | (go_at_call 15; refine d38.mono ?_; rintro r w4 ⟨sv2, rfl, hsv2, rfl⟩)
          | (go_at_call 15; refine c38.mono ?_; rintro r w2 ⟨sv, rfl, hsv, rfl⟩))
        go_roundw
        case rel => exact ⟨e + 1, by go_num, by omega, by omega, bnx (bnx hB hb1) hb3⟩
        case measure => simp [intOf]; omega
/-- the first digit's place, the document's -/
theorem rtensT {N D : Nat} {E : Int} {vn vd : Value} {w : World} (hN0 : 0 < N) (hD0 : 0 < D) (hE : TnE N D E) (hN : bl N ≤ 150000) (hD : bl D ≤ 150000) (h : NT 7000 N vn w) (h' : NT 7000 D vd w) :
    Calls Tryd.prog 51 #[vn, vd] w fun r w' => r = .returned (.int .i64 E) ∧ Below w.heap.size w w' := by
  have u := tnG_up hD0 hE.1
  have l := tnG_dn hN0 hE.2
  have sc : ∀ W e (y : Int), y = -e → -59900 ≤ e ∧ e ≤ 59900 → Below w.heap.size w W → Calls Tryd.prog 13 #[vn, vd, .int .u64 10, .int .i64 y] W fun r w' => ∃ a b, r = .returned (.tuple #[a, b]) ∧ (Calls Tryd.prog 15 #[a, b] w' fun r w'' => r = .returned (.int .i64 (sgn ((N * 10 ^ (-e).toNat : Nat) : Int) ((D * 10 ^ e.toNat : Nat) : Int))) ∧ w' = w'') ∧ Below W.heap.size W w' := by
    rintro W e y rfl he hW
    refine (rscaleT (-e) (by omega) (h.next hW) (h'.next hW) (by omega) (by omega)).mono fun r w' ⟨a, b, e1, e2, e3, e4⟩ => ⟨a, b, e1, ?_, e4⟩
    rw [Int.neg_neg] at e3
    exact rcmp_nv (by decide) (by decide) e2.nv e3.nv
  refine rtensW vn vd (bl N) (bl D) E w (fun e => tnG N D e) (by omega) (by omega) (fun e he => tnG_le hE.1 he) (fun e he h' => hE.2 (tnG_le h' (by omega))) (fun W hW => rlen_nv (by decide) (h.next hW).nv) (fun W hW => rlen_nv (by decide) (h'.next hW).nv) ?_ ?_
  · intro W e y hy he ht hW
    refine (sc W e y hy he hW).mono fun r w' ⟨a, b, e1, e2, e3⟩ => ⟨a, b, e1, e2.mono fun r w'' ⟨f1, f2⟩ => ⟨_, f1, ?_, f2⟩, e3⟩
    have : D * 10 ^ e.toNat ≤ N * 10 ^ (-e).toNat := ht
    rcases sgn_ways ((N * 10 ^ (-e).toNat : Nat) : Int) ((D * 10 ^ e.toNat : Nat) : Int) with ⟨a, e⟩ | ⟨a, e⟩ | ⟨a, e⟩ <;> omega
  · intro W e y hy he ht hW
    refine (sc W e y hy he hW).mono fun r w' ⟨a, b, e1, e2, e3⟩ => ⟨a, b, e1, e2.mono fun r w'' ⟨f1, f2⟩ => ⟨_, f1, ?_, f2⟩, e3⟩
    have : ¬ D * 10 ^ e.toNat ≤ N * 10 ^ (-e).toNat := ht
    rcases sgn_ways ((N * 10 ^ (-e).toNat : Nat) : Int) ((D * 10 ^ e.toNat : Nat) : Int) with ⟨a, e⟩ | ⟨a, e⟩ | ⟨a, e⟩ <;> omega
end Go.Proofs.YtmommdhnogogdaaDoor

namespace Go.Proofs.YtmommdhnogogdaaDoor
open Go.RowKit

theorem owns_new {w : World} {base g k cap n : Nat} {e : TypeId} {xs : List Value} (h : w.ownsRow base e 1 (.slice (some ⟨g, 0, none⟩) k cap) n xs) : base ≤ g := by
  rcases h.2 with ⟨h, _⟩ | ⟨g', cap', cur, he, hb, _⟩
  · cases h
  · cases he; exact hb
set_option maxHeartbeats 1000000 in
theorem trimf_some (b off n c : Nat) (x : Nat → Int) (w : World) (hn : n < 4294967296) (h : Num w (some ⟨b, off, none⟩) n c x) :
    Calls Tryd.prog 31 #[.slice (some ⟨b, off, none⟩) n c] w fun e w' => ∃ g cap, e = .returned (.slice (some ⟨g, 0, none⟩) (sizeL x n) cap) ∧ Num w' (some ⟨g, 0, none⟩) (sizeL x n) cap x ∧ Below w.heap.size w w' ∧ w.heap.size ≤ g := by
  obtain ⟨h1, h2, h3, h4, h5⟩ := h
  have hc : b < w.heap.size ∧ ∀ i, i < n → w.cell? ⟨b, off + i, none⟩ = some (.int .u64 (x i)) := by
    rcases h5 with ⟨h, _⟩ | ⟨b', off', h, hbs, hc⟩
    · cases h
    · cases h; exact ⟨hbs, hc⟩
  obtain ⟨hbs, hc⟩ := hc
  clear h5
  obtain ⟨i0, hi, hz0, hz1, hz2⟩ := info_parts Tryd.info26
  unfold maxLen at h2
  go_enter Tryd.func31, Tryd.ntmps31
  go_wp2
  go_loop [3] (fun t => ∃ k : Nat, k ≤ n ∧ sizeL x k = sizeL x n ∧ (∀ i, k ≤ i → x i = 0) ∧ t = .int .i64 k) (fun t => (intOf t).toNat)
  case atStart => exact ⟨n, Nat.le_refl _, rfl, h4, rfl⟩
  case round =>
    obtain ⟨k, hk, hs, hz, rfl⟩ := hrel
    clear h4
    by_cases h0 : k = 0
    · subst h0
      have HS : Hid (sizeL x n = 0) := hs.symm
      have HN : Hid (Num (w.alloc (.cells #[] 26)) (some ⟨w.heap.size, 0, none⟩) 0 0 x) := ⟨Nat.le_refl _, by unfold maxLen; omega, h3, hz, Or.inr ⟨w.heap.size, 0, rfl, by simp, fun i hi => by omega⟩⟩
      clear hs hz hc h3
      go_wp2
      go_ret
      refine ⟨w.heap.size, 0, ?_, ?_, (Below.refl _ _).alloc (Nat.le_refl _) _, Nat.le_refl _⟩
      · rw [HS.out]; rfl
      · rw [HS.out]; exact HN.out
    · obtain ⟨j, rfl⟩ : ∃ j, k = j + 1 := ⟨k - 1, by omega⟩
      have hcj := hc j (by omega)
      by_cases hzj : x j = 0
      · have HS : Hid (sizeL x j = sizeL x n) := by
          have : sizeL x (j + 1) = sizeL x j := by simp [sizeL, hzj]
          exact this.symm.trans hs
        have HZ : Hid (∀ i, j ≤ i → x i = 0) := fun i hji => by
          by_cases e : i = j
          · rw [e]; exact hzj
          · exact hz i (by omega)
        clear hs hz hc
        go_wp2
        go_round
        case rel => exact ⟨j, by omega, HS.out, HZ.out, by go_num⟩
        case measure => simp [intOf]
      · have HS : Hid (sizeL x n = j + 1) := by
          have : sizeL x (j + 1) = j + 1 := by simp [sizeL, hzj]
          exact hs.symm.trans this
        have HZ : Hid (∀ i, j + 1 ≤ i → x i = 0) := hz
        have HC : Hid (∀ i, i < n → w.cell? ⟨b, off + i, none⟩ = some (.int .u64 (x i))) := hc
        clear hs hz hc
        have HOWN : (w.alloc (.cells #[] 26)).ownsRow w.heap.size 26 1 (.slice (some ⟨w.heap.size, 0, none⟩) 0 0) 0 [] :=
          ⟨rfl, Or.inr ⟨w.heap.size, 0, #[], rfl, Nat.le_refl _, (MapKept.heap_alloc w _).1, Nat.le_refl _, by unfold maxLen; omega, rfl, rfl⟩⟩
        have HNEWS : ∀ (q : Nat) (u : Value), ((List.range (j + 1)).map fun i => Value.int .u64 (x i))[q]? = some u → (w.alloc (.cells #[] 26)).cell? ((⟨b, off, none⟩ : Addr).add q) = some u := by
          intro q u hq
          have hql : q < j + 1 := by
            rcases Nat.lt_or_ge q (j + 1) with h | h
            · exact h
            · rw [List.getElem?_eq_none (by simpa using h)] at hq; cases hq
          have e2 : u = .int .u64 (x q) := by simpa [hql] using hq.symm
          rw [e2]
          have ea : (⟨b, off, none⟩ : Addr).add q = ⟨b, off + q, none⟩ := by simp [Addr.add]
          rw [ea]
          exact (((Below.refl w.heap.size w).alloc (Nat.le_refl _) _).cell (p := ⟨b, off + q, none⟩) hbs).trans (HC.out q (by omega))
        have HONE : ∀ u ∈ ((List.range (j + 1)).map fun i => Value.int .u64 (x i)), u.oneCell' = true := by
          intro u hu
          obtain ⟨q, _, rfl⟩ := List.mem_map.1 hu
          rfl
        go_wp2_with (at_builtin; refine wpList_append_lies _ rfl (.tmp 18) (.tmp 21) 22 rfl w.heap.size 26 i0 (.int .u64 0) 1 8 Tryd.underlying22 hi hz0 hz1 hz2 rfl (by decide) (.slice (some ⟨w.heap.size, 0, none⟩) 0 0) 0 [] rfl HOWN ⟨b, off, none⟩ (j + 1) c ((List.range (j + 1)).map fun i => Value.int .u64 (x i)) rfl (by simp) HNEWS HONE (by omega) (by unfold maxLen; omega) (by omega) (by simp) (w.heap.size + 1) (by simp) ?_; intro g cap w1 hown hgrow hat hlt; clear HOWN HNEWS HONE)
        have hown' : w1.ownsRow w.heap.size 26 1 (.slice (some ⟨g, 0, none⟩) (j + 1) cap) (j + 1) ((List.range (j + 1)).map fun i => Value.int .u64 (x i)) := by
          have e0 : 0 + (j + 1) = j + 1 := by omega
          rw [e0] at hown
          simpa using hown
        have HG := owns_new hown'
        have HN := num_of_owns (w := w) h3 HZ.out hown' hlt
        have HB : Below w.heap.size w w1 := ((Below.refl _ _).alloc (Nat.le_refl _) _).grown hgrow (by simp) (by intro k hk; cases hk; exact Nat.le_refl _)
        clear hown hown' hgrow
        go_wp2
        go_ret
        refine ⟨g, cap, ?_, ?_, HB, HG⟩
        · rw [HS.out]; simp
        · rw [HS.out]; exact HN

set_option maxHeartbeats 400000 in
theorem trimf_nil (x : Nat → Int) (w : World) (hx : ∀ i, x i = 0) :
    Calls Tryd.prog 31 #[.slice none 0 0] w fun e w' => ∃ g cap, e = .returned (.slice (some ⟨g, 0, none⟩) 0 cap) ∧ Num w' (some ⟨g, 0, none⟩) 0 cap x ∧ Below w.heap.size w w' ∧ w.heap.size ≤ g := by
  go_enter Tryd.func31, Tryd.ntmps31
  go_wp2
  go_loop [3] (fun t => t = .int .i64 0) (fun t => (intOf t).toNat)
  case atStart => rfl
  case round =>
    subst hrel
    go_wp2
    go_ret
    refine ⟨w.heap.size, 0, rfl, ?_, (Below.refl _ _).alloc (Nat.le_refl _) _, Nat.le_refl _⟩
    exact ⟨Nat.le_refl _, by unfold maxLen; omega, fun i => by rw [hx i]; decide, fun i _ => hx i, Or.inr ⟨w.heap.size, 0, rfl, by simp, fun i hi => by omega⟩⟩
theorem trimf_any (a : Option Addr) (n c : Nat) (x : Nat → Int) (w : World) (hn : n < 4294967296) (h : Num w a n c x) :
    Calls Tryd.prog 31 #[.slice a n c] w fun e w' => ∃ g cap, e = .returned (.slice (some ⟨g, 0, none⟩) (sizeL x n) cap) ∧ Num w' (some ⟨g, 0, none⟩) (sizeL x n) cap x ∧ Below w.heap.size w w' ∧ w.heap.size ≤ g := by
  have h' := h
  obtain ⟨h1, h2, h3, h4, h5⟩ := h'
  rcases h5 with ⟨rfl, rfl⟩ | ⟨b, off, rfl, _, _⟩
  · obtain rfl : n = 0 := by omega
    exact trimf_nil x w (fun i => h4 i (Nat.zero_le _))
  · exact trimf_some b off n c x w hn h
set_option maxHeartbeats 400000 in
theorem off_any (c : Int) (w : World) (hc : 0 ≤ c ∧ c ≤ 18446744073709551615) :
    Calls Tryd.prog 91 #[.int .u64 c] w fun e w' => ∃ g k cap z, e = .returned (.slice (some ⟨g, 0, none⟩) k cap) ∧ k ≤ 1 ∧ Num w' (some ⟨g, 0, none⟩) k cap z ∧ val z k = c ∧ Below w.heap.size w w' ∧ sizeL z k = k := by
  have hN := num_one w c hc
  have hT := trim_any _ 1 1 (oneW c) _ (by omega) hN
  have hle := sizeL_le (oneW c) 1
  have HV : Hid (val (oneW c) (sizeL (oneW c) 1) = c) := by show _ = _; rw [val_bare, val_one _ 1 (by omega)]
  have HB := below1 w (.cells #[.int .u64 c] 26)
  have HST : Hid (sizeL (oneW c) (sizeL (oneW c) 1) = sizeL (oneW c) 1) := sizeL_sizeL _ _
  generalize sizeL (oneW c) 1 = s at *
  clear hN
  go_enter Tryd.func91, Tryd.ntmps91
  go_wp2_with (go_at_call 31; refine hT.mono ?_; rintro e w1 ⟨g, cap, rfl, hN, hB⟩)
  go_ret
  exact ⟨g, s, cap, _, rfl, hle, hN, HV.out, HB.trans (hB.mono HB.size), HST.out⟩
/-- the quotient's words from k on -/
def quoKc (x : Nat → Int) (d : Int) (s k i : Nat) : Int := if k ≤ i ∧ i < s then quoW x d s i else 0
set_option maxHeartbeats 1000000 in
theorem smf_any (a : Option Addr) (s c : Nat) (x : Nat → Int) (d : Int) (w : World) (hs : s < 100000) (h : Num w a s c x) (hd : 0 < d ∧ d ≤ 18446744073709551615) :
    Calls Tryd.prog 83 #[.slice a s c, .int .u64 d] w fun e w' => ∃ g k cap z g' k' cap' z', e = .returned (.tuple #[.slice (some ⟨g, 0, none⟩) k cap, .slice (some ⟨g', 0, none⟩) k' cap']) ∧ k ≤ s ∧ k' ≤ 1 ∧ Num w' (some ⟨g, 0, none⟩) k cap z ∧ Num w' (some ⟨g', 0, none⟩) k' cap' z' ∧ val z k = val x s / d ∧ sizeL z k = k ∧ val z' k' = val x s % d ∧ sizeL z' k' = k' ∧ Below w.heap.size w w' ∧ w.heap.size ≤ g := by
  have hx := h.2.2.1
  have H := fun j hj w => limDiv_ok x d s hx hd j hj w
  have hd0 : (d == 0) = false := by simp; omega
  have hmk := fun w => make_any (s : Int) s rfl (by omega) w
  have hA := apart_of h
  have hBW := below1 w (.cells (arrOf (fun _ => 0) s) 26)
  have hnx := h.next hBW
  have hO := Own.new w (fun _ => 0) s
  have hqv := quo_val hx hd.1 s
  have HQW : Hid (Words (quoW x d s)) := quoW_words hx hd.1 s
  have hrb := remJ_bd x d s s hd.1
  have HB : Hid (Below w.heap.size w (w.alloc (.cells (arrOf (fun _ => 0) s) 26))) := hBW
  clear hBW h hx
  go_enter Tryd.func83, Tryd.ntmps83
  go_wp2
  generalize w.alloc (.cells (arrOf (fun _ => 0) s) 26) = wA at *
  go_loopw [7, 8, 19] (fun c i u19 wr => ∃ (k : Nat), k ≤ s ∧ i = .int .i64 ((k : Int) - 1) ∧ c = .int .u64 (remJ x d s (s - k)) ∧ Own w.heap.size s (quoKc x d s k) wr ∧ Upd w.heap.size wA wr) (fun _ i _ _ => (intOf i + 1).toNat)
  case atStart => exact ⟨s, Nat.le_refl _, by go_num, by rw [Nat.sub_self]; rfl, hO.congr fun i _ => by unfold quoKc; rw [if_neg (by omega)], Upd.refl _ _⟩
  case round =>
    clear hO
    obtain ⟨k, hk, rfl, rfl, hO, hU⟩ := hrel
    by_cases h0 : k = 0
    · subst h0
      have hN := hO.num (x := quoKc x d s 0) (fun i => by unfold quoKc; split; exact HQW.out i; decide) 0 s s (by omega) (Nat.le_refl _) (by unfold maxLen; omega)
      have hT := trimf_any _ s s _ _ (by omega) hN
      have hle := sizeL_le (segW (quoKc x d s 0) 0 s) s
      have HV : Hid (val (segW (quoKc x d s 0) 0 s) (sizeL (segW (quoKc x d s 0) 0 s) s) = val x s / d) := by
        show _ = _
        rw [val_bare, val_congr (y := quoW x d s) s fun i hi => by rw [segW_lt _ _ _ i hi, Nat.zero_add]; unfold quoKc; rw [if_pos (by omega)], hqv.1]
      have HR : Hid (remJ x d s s = val x s % d) := hqv.2
      have HBr : Hid (Below w.heap.size w wr) := HB.out.trans (hU.below (Nat.le_refl _))
      have HST : Hid (sizeL (segW (quoKc x d s 0) 0 s) (sizeL (segW (quoKc x d s 0) 0 s) s) = sizeL (segW (quoKc x d s 0) 0 s) s) := sizeL_sizeL _ _
      generalize segW (quoKc x d s 0) 0 s = qz at *
      generalize sizeL qz s = k1 at *
      have hof := fun wr => off_any (remJ x d s s) wr (by omega)
      rw [Nat.sub_zero]
      generalize remJ x d s s = rm at *
      clear hN hO hU H hqv
      go_wp2_with (go_at_call 31; refine hT.mono ?_; rintro e w1 ⟨g, cap, rfl, hN1, hB1, hG1⟩; clear hT)
      go_wp2_with (go_at_call 91; refine (hof _).mono ?_; rintro e w2 ⟨g2, k2, p2, z2, rfl, hk2, hN2, hv2, hB2, hS2⟩; clear hof)
      go_ret2
      exact ⟨g, k1, cap, qz, g2, k2, p2, z2, rfl, hle, hk2, hN1.next hB2, hN2, HV.out, HST.out, by rw [hv2, HR.out], hS2, (HBr.out.trans (hB1.mono HBr.out.size)).trans (hB2.mono (Nat.le_trans HBr.out.size hB1.size)), Nat.le_trans HBr.out.size hG1⟩
    · obtain ⟨j, rfl⟩ : ∃ j, k = j + 1 := ⟨k - 1, by omega⟩
      have hjm : (j : Int) < s := by omega
      have ej : ((j + 1 : Nat) : Int) - 1 = j := by omega
      have ej2 : s - (j + 1) = s - 1 - j := by omega
      rw [ej, ej2]
      obtain ⟨b, off, rfl, hbs, hc⟩ := (hU.num' hA hnx).cells (by omega)
      have hcx := hc j (by omega)
      have hcj : ∃ u, wr.cell? ⟨w.heap.size, j, none⟩ = some (.int .u64 u) := ⟨_, hO.cell j (by omega)⟩
      obtain ⟨u, hcj⟩ := hcj
      have hfj := hO.frozen j
      have HJ := H j (by omega)
      have HO : Hid (Own w.heap.size s (quoKc x d s j) (wr.setCell ⟨w.heap.size, j, none⟩ (.int .u64 (quoW x d s j)))) := (hO.set j (quoW x d s j)).congr fun i hi => by
        unfold quoKc
        by_cases e : i = j
        · subst e; rw [if_pos rfl, if_pos (by omega)]
        · rw [if_neg e]
          by_cases e2 : j + 1 ≤ i ∧ i < s
          · rw [if_pos e2, if_pos (by omega)]
          · rw [if_neg e2, if_neg (by omega)]
      have HU : Hid (Upd w.heap.size wA (wr.setCell ⟨w.heap.size, j, none⟩ (.int .u64 (quoW x d s j)))) := hU.set j _
      clear hO hU H ej ej2 hc hqv hA hnx
      go_wp2_with (go_at_call 77; refine (HJ _).mono ?_; rintro e w' ⟨rfl, m', rfl⟩)
      go_roundw
      case rel => exact ⟨j, by omega, by go_num, rfl, HO.out, HU.out.drewN m'⟩
      case measure => simp [intOf]
set_option maxHeartbeats 1000000 in
theorem overf_one (ga gb s c c' : Nat) (x y : Nat → Int) (w : World) (hs : s < 20001) (h : Num w (some ⟨ga, 0, none⟩) s c x) (h' : Num w (some ⟨gb, 0, none⟩) 1 c' y) (hys : sizeL y 1 = 1) :
    Calls Tryd.prog 72 #[.slice (some ⟨ga, 0, none⟩) s c, .slice (some ⟨gb, 0, none⟩) 1 c'] w fun e w' => ∃ g k cap z g' k' cap' z', e = .returned (.tuple #[.slice (some ⟨g, 0, none⟩) k cap, .slice (some ⟨g', 0, none⟩) k' cap']) ∧ k ≤ s ∧ k' ≤ 1 ∧ Num w' (some ⟨g, 0, none⟩) k cap z ∧ Num w' (some ⟨g', 0, none⟩) k' cap' z' ∧ val z k = val x s / val y 1 ∧ sizeL z k = k ∧ val z' k' = val x s % val y 1 ∧ sizeL z' k' = k' ∧ Below w.heap.size w w' ∧ w.heap.size ≤ g := by
  have hy := h'.2.2.1
  have c31 := size_num _ 1 c' y w (by omega) h'
  rw [hys] at c31
  have hy0 : y 0 ≠ 0 := by have := sizeL_top (x := y) 1 (by omega); rw [hys] at this; exact this
  have hyb := hy 0
  have ev : val y 1 = y 0 := by simp [val]
  have c107 := smf_any (some ⟨ga, 0, none⟩) s c x (y 0) w (by omega) h (by omega)
  have hc : gb < w.heap.size ∧ w.cell? ⟨gb, 0, none⟩ = some (.int .u64 (y 0)) := by
    rcases h'.2.2.2.2 with ⟨h, _⟩ | ⟨b', off', h, hbs, hc⟩
    · cases h
    · cases h; exact ⟨hbs, hc 0 (by omega)⟩
  obtain ⟨hgb, hcc⟩ := hc
  rw [ev]
  clear h h'
  go_enter Tryd.func72, Tryd.ntmps72
  go_wp2_with (first | (go_at_call 11; refine c31.mono ?_; rintro e w' ⟨rfl, rfl⟩) | (go_at_call 83; refine c107.mono ?_; rintro e w1 ⟨g, k, cap, z, g', k', cap', z', rfl, hk, hk', hN, hN', hv, hs1, hv', hs2, hB, hG⟩))
  go_ret2
  exact ⟨g, k, cap, z, g', k', cap', z', rfl, hk, hk', hN, hN', hv, hs1, hv', hs2, hB, hG⟩
end Go.Proofs.YtmommdhnogogdaaDoor
