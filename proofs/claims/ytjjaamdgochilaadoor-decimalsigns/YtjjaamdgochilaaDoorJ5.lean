/-
  Texts that the proof leans on, joined: Dv, Dw, Dvs, Cmp, Nad, Nsb, Nln, Nmu, Shv.
-/
import Derived.Test.YtjjaamdgochilaaDoorJ1
import Derived.Test.YtjjaamdgochilaaDoorJ4
import Derived.Deep.Cut
import Derived.Deep.CutRange
import Derived.Test.YtjjaamdgochilaaDoorJ3
import Derived.ChangeKeysEq
set_option linter.unusedVariables false
set_option linter.unusedSimpArgs false
set_option maxRecDepth 20000
set_option linter.unusedSectionVars false
namespace Go.Proofs.YtjjaamdgochilaaDoor
open Go.RowKit

theorem wrap3 {a e b R : Int} (h : a * 4294967296 + e - b = R) (h0 : 0 ≤ R) (h1 : R ≤ 18446744073709551615) : IntKind.u64.wrap (IntKind.u64.wrap (IntKind.u64.wrap (a * 4294967296) + e) - IntKind.u64.wrap b) = R := by
  simp only [IntKind.wrap, IntKind.bits, IntKind.signed]
  simp
  omega

set_option maxHeartbeats 8000000 in
theorem div64_core (hi lo y Y d1 d0 u v e1 e0 Q1 R1 Q0 R0 : Int) (S : Nat) (w : World) (hh : 0 < hi) (hl : 0 ≤ lo ∧ lo ≤ 18446744073709551615) (hy : hi < y ∧ y ≤ 18446744073709551615) (hS : S < 64)
    (hlz : Calls Tryd.prog 90 #[.int .u64 y] w fun e w' => e = .returned (.int .i64 (S : Int)) ∧ w = w')
    (hY : IntKind.u64.wrap (y * 2 ^ S) = Y) (hd1 : Y / 4294967296 = d1) (hd0 : bits BinOp.and IntKind.u64 Y 4294967295 = d0)
    (hu : bits BinOp.or IntKind.u64 (IntKind.u64.wrap (hi * 2 ^ S)) (lo / 2 ^ (64 - S)) = u) (hv : IntKind.u64.wrap (lo * 2 ^ S) = v) (he1 : v / 4294967296 = e1) (he0 : bits BinOp.and IntKind.u64 v 4294967295 = e0)
    (D1 : Dg u d1 d0 e1) (D0 : Dg R1 d1 d0 e0) (hYe : Y = d1 * 4294967296 + d0) (hY64 : Y ≤ 18446744073709551615)
    (hQ1 : (u * 4294967296 + e1) / (d1 * 4294967296 + d0) = Q1) (hR1 : u * 4294967296 + e1 - Q1 * Y = R1) (hQ0 : (R1 * 4294967296 + e0) / (d1 * 4294967296 + d0) = Q0) (hR0 : R1 * 4294967296 + e0 - Q0 * Y = R0) (hR0b : 0 ≤ R0 ∧ R0 ≤ 18446744073709551615) :
    Calls Tryd.prog 81 #[.int .u64 hi, .int .u64 lo, .int .u64 y] w fun e w' => e = .returned (.tuple #[.int .u64 (Q1 * 4294967296 + Q0), .int .u64 (R0 / 2 ^ S)]) ∧ ∃ m, w' = w.drewN m := by
  have hy0 : (y == 0) = false := by simp; omega
  have hh0 : (hi == 0) = false := by simp; omega
  have f1 := D1.first
  have f0 := D0.first
  rw [hQ1] at f1
  rw [hQ0] at f0
  have d1p := D1.a1
  have d1q := D1.a2
  have d0p := D1.b1
  have d0q := D1.b2
  have e1p := D1.e1
  have e1q := D1.e2
  have e0p := D0.e1
  have e0q := D0.e2
  have up := D1.u1
  have uq : u ≤ 18446744073709551615 := by have := D1.u2; omega
  have vp := D0.u1
  have vq : R1 ≤ 18446744073709551615 := by have := D0.u2; omega
  have hW1 : IntKind.u64.wrap (IntKind.u64.wrap (IntKind.u64.wrap (u * 4294967296) + e1) - IntKind.u64.wrap (Q1 * Y)) = R1 := wrap3 hR1 vp vq
  have hW0 : IntKind.u64.wrap (IntKind.u64.wrap (IntKind.u64.wrap (R1 * 4294967296) + e0) - IntKind.u64.wrap (Q0 * Y)) = R0 := wrap3 hR0 hR0b.1 hR0b.2
  have HQ1 : Hid ((u * 4294967296 + e1) / (d1 * 4294967296 + d0) = Q1) := hQ1
  have HQ0 : Hid ((R1 * 4294967296 + e0) / (d1 * 4294967296 + d0) = Q0) := hQ0
  have k1 : Q1 < 4294967296 := by rw [← hQ1]; exact D1.lt
  have k0 : Q0 < 4294967296 := by rw [← hQ0]; exact D0.lt
  have hq10 : 0 ≤ Q1 := by rw [← hQ1]; exact D1.nonneg
  have hq00 : 0 ≤ Q0 := by rw [← hQ0]; exact D0.nonneg
  clear hQ1 hYe hR1 hQ0 hR0
  obtain ⟨q, hq⟩ : ∃ q, u / d1 = q := ⟨_, rfl⟩
  obtain ⟨r, hr⟩ : ∃ r, u % d1 = r := ⟨_, rfl⟩
  rw [hq, hr] at f1
  obtain ⟨p2, hp2⟩ : ∃ q, R1 / d1 = q := ⟨_, rfl⟩
  obtain ⟨s2, hs2⟩ : ∃ r, R1 % d1 = r := ⟨_, rfl⟩
  rw [hp2, hs2] at f0
  obtain ⟨f1a, f1b, f1c, f1d, f1e⟩ := f1
  obtain ⟨f0a, f0b, f0c, f0d, f0e⟩ := f0
  have hqd0 : 0 ≤ q * d1 := Int.mul_nonneg (by omega) (by omega)
  have hqd1 : q * d1 ≤ 18446744073709551615 := by omega
  have hqr : u - q * d1 = r := by omega
  have hpd0 : 0 ≤ p2 * d1 := Int.mul_nonneg (by omega) (by omega)
  have hpd1 : p2 * d1 ≤ 18446744073709551615 := by omega
  have hpr : R1 - p2 * d1 = s2 := by omega
  have F1A : Hid (q * d1 + r = u) := f1a
  have F0A : Hid (p2 * d1 + s2 = R1) := f0a
  have D1H : Hid (Dg u d1 d0 e1) := D1
  have D0H : Hid (Dg R1 d1 d0 e0) := D0
  clear f1a hr f0a hs2 D1 D0
  go_enter Tryd.func81, Tryd.ntmps81
  go_wp2_with (first | (go_at_call 90; refine hlz.mono ?_; rintro e w' ⟨rfl, rfl⟩))
  go_loop [15, 16] (fun a b => ∃ q r, a = .int .u64 q ∧ b = .int .u64 r ∧ Hid (q * d1 + r = u) ∧ Q1 ≤ q ∧ q ≤ 4294967297 ∧ 0 ≤ r ∧ r < 4294967296) (fun a _ => (intOf a).toNat)
  case atStart => exact ⟨q, r, by first | rfl | rw [hq], rfl, F1A, f1b, f1c, f1d, f1e⟩
  case round =>
    clear f1b f1c f1d f1e hqd0 hqd1 F1A hqr
    obtain ⟨q1, r1, rfl, rfl, hqr, hge, hle, hr0, hr1⟩ := hrel
    have hm0 : 0 ≤ q1 * d0 := Int.mul_nonneg (by omega) d0p
    by_cases hbig : 4294967296 ≤ q1
    · have hg1 : Q1 ≤ q1 - 1 := by have := D1H.out.big' hbig; rw [HQ1.out] at this; exact this
      by_cases hb : r1 + d1 < 4294967296
      · go_wp2
        go_round
        case rel => exact ⟨q1 - 1, r1 + d1, rfl, rfl, by show _ = _; rw [Int.sub_mul]; have := hqr.out; omega, hg1, by omega, by omega, hb⟩
        case measure => simp [intOf]; omega
      · have hqq : q1 - 1 = Q1 := by
          have := D1H.out.right' (q := q1 - 1) (r := r1 + d1) (by rw [Int.sub_mul]; have := hqr.out; omega) (by rw [HQ1.out]; exact hg1) (by omega) (by omega)
          rw [HQ1.out] at this; exact this.symm
        go_wp2
        clear hqr hge hle hr0 hr1 hm0
        go_loop [18, 16] (fun a b => ∃ q r, a = .int .u64 q ∧ b = .int .u64 r ∧ Hid (q * d1 + r = R1) ∧ Q0 ≤ q ∧ q ≤ 4294967297 ∧ 0 ≤ r ∧ r < 4294967296) (fun a _ => (intOf a).toNat)
        case atStart => exact ⟨p2, s2, by first | rfl | rw [hp2], rfl, F0A, f0b, f0c, f0d, f0e⟩
        case round =>
          clear f0b f0c f0d f0e hpd0 hpd1 F0A hpr
          obtain ⟨q3, r3, rfl, rfl, hqr, hge, hle, hr0, hr1⟩ := hrel
          have hm0 : 0 ≤ q3 * d0 := Int.mul_nonneg (by omega) d0p
          by_cases hbig : 4294967296 ≤ q3
          · have hg1 : Q0 ≤ q3 - 1 := by have := D0H.out.big' hbig; rw [HQ0.out] at this; exact this
            by_cases hb : r3 + d1 < 4294967296
            · go_wp2
              go_round
              case rel => exact ⟨q3 - 1, r3 + d1, rfl, rfl, by show _ = _; rw [Int.sub_mul]; have := hqr.out; omega, hg1, by omega, by omega, hb⟩
              case measure => simp [intOf]; omega
            · have hqq : q3 - 1 = Q0 := by
                have := D0H.out.right' (q := q3 - 1) (r := r3 + d1) (by rw [Int.sub_mul]; have := hqr.out; omega) (by rw [HQ0.out]; exact hg1) (by omega) (by omega)
                rw [HQ0.out] at this; exact this.symm
              go_wp2
              go_ret2
              exact ⟨rfl, 0, rfl⟩
          · have hsm : q3 < 4294967296 := by omega
            have hm1 : q3 * d0 ≤ 4294967295 * 4294967295 := Int.mul_le_mul (by omega) (by omega) d0p (by decide)
            by_cases ht : 4294967296 * r3 + e0 < q3 * d0
            · have hg1 : Q0 ≤ q3 - 1 := by have := D0H.out.big hqr.out ht; rw [HQ0.out] at this; exact this
              by_cases hb : r3 + d1 < 4294967296
              · go_wp2
                go_round
                case rel => exact ⟨q3 - 1, r3 + d1, rfl, rfl, by show _ = _; rw [Int.sub_mul]; have := hqr.out; omega, hg1, by omega, by omega, hb⟩
                case measure => simp [intOf]; omega
              · have hqq : q3 - 1 = Q0 := by
                  have := D0H.out.right' (q := q3 - 1) (r := r3 + d1) (by rw [Int.sub_mul]; have := hqr.out; omega) (by rw [HQ0.out]; exact hg1) (by omega) (by omega)
                  rw [HQ0.out] at this; exact this.symm
                go_wp2
                go_ret2
                exact ⟨rfl, 0, rfl⟩
            · obtain rfl : Q0 = q3 := by
                have := D0H.out.right hqr.out (by rw [HQ0.out]; exact hge) (by omega)
                rw [HQ0.out] at this; exact this
              go_wp2
              go_ret2
              exact ⟨rfl, 0, rfl⟩
    · have hsm : q1 < 4294967296 := by omega
      have hm1 : q1 * d0 ≤ 4294967295 * 4294967295 := Int.mul_le_mul (by omega) (by omega) d0p (by decide)
      by_cases ht : 4294967296 * r1 + e1 < q1 * d0
      · have hg1 : Q1 ≤ q1 - 1 := by have := D1H.out.big hqr.out ht; rw [HQ1.out] at this; exact this
        by_cases hb : r1 + d1 < 4294967296
        · go_wp2
          go_round
          case rel => exact ⟨q1 - 1, r1 + d1, rfl, rfl, by show _ = _; rw [Int.sub_mul]; have := hqr.out; omega, hg1, by omega, by omega, hb⟩
          case measure => simp [intOf]; omega
        · have hqq : q1 - 1 = Q1 := by
            have := D1H.out.right' (q := q1 - 1) (r := r1 + d1) (by rw [Int.sub_mul]; have := hqr.out; omega) (by rw [HQ1.out]; exact hg1) (by omega) (by omega)
            rw [HQ1.out] at this; exact this.symm
          go_wp2
          clear hqr hge hle hr0 hr1 hm0
          go_loop [18, 16] (fun a b => ∃ q r, a = .int .u64 q ∧ b = .int .u64 r ∧ Hid (q * d1 + r = R1) ∧ Q0 ≤ q ∧ q ≤ 4294967297 ∧ 0 ≤ r ∧ r < 4294967296) (fun a _ => (intOf a).toNat)
          case atStart => exact ⟨p2, s2, by first | rfl | rw [hp2], rfl, F0A, f0b, f0c, f0d, f0e⟩
          case round =>
            clear f0b f0c f0d f0e hpd0 hpd1 F0A hpr
            obtain ⟨q3, r3, rfl, rfl, hqr, hge, hle, hr0, hr1⟩ := hrel
            have hm0 : 0 ≤ q3 * d0 := Int.mul_nonneg (by omega) d0p
            by_cases hbig : 4294967296 ≤ q3
            · have hg1 : Q0 ≤ q3 - 1 := by have := D0H.out.big' hbig; rw [HQ0.out] at this; exact this
              by_cases hb : r3 + d1 < 4294967296
              · go_wp2
                go_round
                case rel => exact ⟨q3 - 1, r3 + d1, rfl, rfl, by show _ = _; rw [Int.sub_mul]; have := hqr.out; omega, hg1, by omega, by omega, hb⟩
                case measure => simp [intOf]; omega
              · have hqq : q3 - 1 = Q0 := by
                  have := D0H.out.right' (q := q3 - 1) (r := r3 + d1) (by rw [Int.sub_mul]; have := hqr.out; omega) (by rw [HQ0.out]; exact hg1) (by omega) (by omega)
                  rw [HQ0.out] at this; exact this.symm
                go_wp2
                go_ret2
                exact ⟨rfl, 0, rfl⟩
            · have hsm : q3 < 4294967296 := by omega
              have hm1 : q3 * d0 ≤ 4294967295 * 4294967295 := Int.mul_le_mul (by omega) (by omega) d0p (by decide)
              by_cases ht : 4294967296 * r3 + e0 < q3 * d0
              · have hg1 : Q0 ≤ q3 - 1 := by have := D0H.out.big hqr.out ht; rw [HQ0.out] at this; exact this
                by_cases hb : r3 + d1 < 4294967296
                · go_wp2
                  go_round
                  case rel => exact ⟨q3 - 1, r3 + d1, rfl, rfl, by show _ = _; rw [Int.sub_mul]; have := hqr.out; omega, hg1, by omega, by omega, hb⟩
                  case measure => simp [intOf]; omega
                · have hqq : q3 - 1 = Q0 := by
                    have := D0H.out.right' (q := q3 - 1) (r := r3 + d1) (by rw [Int.sub_mul]; have := hqr.out; omega) (by rw [HQ0.out]; exact hg1) (by omega) (by omega)
                    rw [HQ0.out] at this; exact this.symm
                  go_wp2
                  go_ret2
                  exact ⟨rfl, 0, rfl⟩
              · obtain rfl : Q0 = q3 := by
                  have := D0H.out.right hqr.out (by rw [HQ0.out]; exact hge) (by omega)
                  rw [HQ0.out] at this; exact this
                go_wp2
                go_ret2
                exact ⟨rfl, 0, rfl⟩
      · obtain rfl : Q1 = q1 := by
          have := D1H.out.right hqr.out (by rw [HQ1.out]; exact hge) (by omega)
          rw [HQ1.out] at this; exact this
        go_wp2
        clear hqr hge hle hr0 hr1 hm0
        go_loop [18, 16] (fun a b => ∃ q r, a = .int .u64 q ∧ b = .int .u64 r ∧ Hid (q * d1 + r = R1) ∧ Q0 ≤ q ∧ q ≤ 4294967297 ∧ 0 ≤ r ∧ r < 4294967296) (fun a _ => (intOf a).toNat)
        case atStart => exact ⟨p2, s2, by first | rfl | rw [hp2], rfl, F0A, f0b, f0c, f0d, f0e⟩
        case round =>
          clear f0b f0c f0d f0e hpd0 hpd1 F0A hpr
          obtain ⟨q3, r3, rfl, rfl, hqr, hge, hle, hr0, hr1⟩ := hrel
          have hm0 : 0 ≤ q3 * d0 := Int.mul_nonneg (by omega) d0p
          by_cases hbig : 4294967296 ≤ q3
          · have hg1 : Q0 ≤ q3 - 1 := by have := D0H.out.big' hbig; rw [HQ0.out] at this; exact this
            by_cases hb : r3 + d1 < 4294967296
            · go_wp2
              go_round
              case rel => exact ⟨q3 - 1, r3 + d1, rfl, rfl, by show _ = _; rw [Int.sub_mul]; have := hqr.out; omega, hg1, by omega, by omega, hb⟩
              case measure => simp [intOf]; omega
            · have hqq : q3 - 1 = Q0 := by
                have := D0H.out.right' (q := q3 - 1) (r := r3 + d1) (by rw [Int.sub_mul]; have := hqr.out; omega) (by rw [HQ0.out]; exact hg1) (by omega) (by omega)
                rw [HQ0.out] at this; exact this.symm
              go_wp2
              go_ret2
              exact ⟨rfl, 0, rfl⟩
          · have hsm : q3 < 4294967296 := by omega
            have hm1 : q3 * d0 ≤ 4294967295 * 4294967295 := Int.mul_le_mul (by omega) (by omega) d0p (by decide)
            by_cases ht : 4294967296 * r3 + e0 < q3 * d0
            · have hg1 : Q0 ≤ q3 - 1 := by have := D0H.out.big hqr.out ht; rw [HQ0.out] at this; exact this
              by_cases hb : r3 + d1 < 4294967296
              · go_wp2
                go_round
                case rel => exact ⟨q3 - 1, r3 + d1, rfl, rfl, by show _ = _; rw [Int.sub_mul]; have := hqr.out; omega, hg1, by omega, by omega, hb⟩
                case measure => simp [intOf]; omega
              · have hqq : q3 - 1 = Q0 := by
                  have := D0H.out.right' (q := q3 - 1) (r := r3 + d1) (by rw [Int.sub_mul]; have := hqr.out; omega) (by rw [HQ0.out]; exact hg1) (by omega) (by omega)
                  rw [HQ0.out] at this; exact this.symm
                go_wp2
                go_ret2
                exact ⟨rfl, 0, rfl⟩
            · obtain rfl : Q0 = q3 := by
                have := D0H.out.right hqr.out (by rw [HQ0.out]; exact hge) (by omega)
                rw [HQ0.out] at this; exact this
              go_wp2
              go_ret2
              exact ⟨rfl, 0, rfl⟩
end Go.Proofs.YtjjaamdgochilaaDoor

namespace Go.Proofs.YtjjaamdgochilaaDoor
open Go.RowKit

theorem wrapNat (a : Nat) : IntKind.u64.wrap (a : Int) = ((a % 18446744073709551616 : Nat) : Int) := by
  simp only [IntKind.wrap, IntKind.bits, IntKind.signed]
  simp
theorem andLow (a : Nat) (h : a < 18446744073709551616) : bits BinOp.and IntKind.u64 (a : Int) 4294967295 = ((a % 4294967296 : Nat) : Int) := by
  have h1 := u64_and_nat a 4294967295 h (by decide)
  rw [show ((4294967295 : Nat) : Int) = 4294967295 from rfl] at h1
  rw [h1]
  have := Nat.and_two_pow_sub_one_eq_mod a 32
  rw [show (2 : Nat) ^ 32 - 1 = 4294967295 by decide, show (2 : Nat) ^ 32 = 4294967296 by decide] at this
  rw [this]
theorem powCast (s : Nat) : ((2 ^ s : Nat) : Int) = (2 : Int) ^ s := by simp

theorem div64_pos (h l y : Nat) (w : World) (hh : 0 < h) (hl : l < 18446744073709551616) (hy : h < y) (hy64 : y < 18446744073709551616) :
    Calls Tryd.prog 81 #[.int .u64 h, .int .u64 l, .int .u64 y] w fun e w' => e = .returned (.tuple #[.int .u64 (((h * 18446744073709551616 + l) / y : Nat) : Int), .int .u64 (((h * 18446744073709551616 + l) % y : Nat) : Int)]) ∧ ∃ m, w' = w.drewN m := by
  obtain ⟨n1, n2, n3⟩ := norm_bd y (by omega) hy64
  have hbl := bitLen_spec y (by omega) hy64
  obtain ⟨S, hS⟩ : ∃ S, 64 - Lib.bitLen y = S := ⟨_, rfl⟩
  rw [hS] at n1 n2 n3
  obtain ⟨j1, j2, j3⟩ := norm_join h l y S n3 hy hl n2
  have hlz : Calls Tryd.prog 90 #[.int .u64 y] w fun e w' => e = .returned (.int .i64 (S : Int)) ∧ w = w' := by
    refine (Tryd.bits_LeadingZeros64 (y : Int) w (by omega) (by omega)).mono fun e w' hw => ⟨?_, hw.2.symm⟩
    rw [hw.1, Int.toNat_natCast]
    have e0 : (64 : Int) - (Lib.bitLen y : Int) = (S : Int) := by omega
    rw [e0]
  obtain ⟨Y, hYn⟩ : ∃ Y, y * 2 ^ S = Y := ⟨_, rfl⟩
  obtain ⟨u, hun⟩ : ∃ u, h * 2 ^ S + l / 2 ^ (64 - S) = u := ⟨_, rfl⟩
  obtain ⟨v, hvn⟩ : ∃ v, l * 2 ^ S % 18446744073709551616 = v := ⟨_, rfl⟩
  have hv64 : v < 18446744073709551616 := by rw [← hvn]; exact Nat.mod_lt _ (by decide)
  have hhS : h * 2 ^ S < 18446744073709551616 := by
    have : h * 2 ^ S ≤ y * 2 ^ S := Nat.mul_le_mul_right _ (by omega)
    omega
  have hls : l / 2 ^ (64 - S) < 18446744073709551616 := Nat.lt_of_le_of_lt (Nat.div_le_self _ _) hl
  rw [hYn] at n1 n2 j3
  rw [hun] at j1 j2 j3
  rw [hvn] at j2
  -- the digits
  obtain ⟨d1, hd1⟩ : ∃ d1, Y / 4294967296 = d1 := ⟨_, rfl⟩
  obtain ⟨d0, hd0⟩ : ∃ d0, Y % 4294967296 = d0 := ⟨_, rfl⟩
  obtain ⟨e1, he1⟩ : ∃ e1, v / 4294967296 = e1 := ⟨_, rfl⟩
  obtain ⟨e0, he0⟩ : ∃ e0, v % 4294967296 = e0 := ⟨_, rfl⟩
  have hYd : Y = d1 * 4294967296 + d0 := by omega
  have hve : v = e1 * 4294967296 + e0 := by omega
  have hYpos : 0 < Y := by omega
  obtain ⟨Q1, hQ1⟩ : ∃ Q1, (u * 4294967296 + e1) / Y = Q1 := ⟨_, rfl⟩
  obtain ⟨R1, hR1⟩ : ∃ R1, (u * 4294967296 + e1) % Y = R1 := ⟨_, rfl⟩
  have hR1l : R1 < Y := by rw [← hR1]; exact Nat.mod_lt _ hYpos
  obtain ⟨Q0, hQ0⟩ : ∃ Q0, (R1 * 4294967296 + e0) / Y = Q0 := ⟨_, rfl⟩
  obtain ⟨R0, hR0⟩ : ∃ R0, (R1 * 4294967296 + e0) % Y = R0 := ⟨_, rfl⟩
  have hR0l : R0 < Y := by rw [← hR0]; exact Nat.mod_lt _ hYpos
  have m1 : Q1 * Y + R1 = u * 4294967296 + e1 := by
    have := Nat.div_add_mod (u * 4294967296 + e1) Y
    rw [hQ1, hR1, Nat.mul_comm] at this; exact this
  have m0 : Q0 * Y + R0 = R1 * 4294967296 + e0 := by
    have := Nat.div_add_mod (R1 * 4294967296 + e0) Y
    rw [hQ0, hR0, Nat.mul_comm] at this; exact this
  have cY : (d1 : Int) * 4294967296 + d0 = (Y : Int) := by omega
  have iQ1 : ((u : Int) * 4294967296 + e1) / (d1 * 4294967296 + d0) = Q1 := by
    rw [cY, show (u : Int) * 4294967296 + e1 = ((u * 4294967296 + e1 : Nat) : Int) by omega, ← Int.natCast_ediv, hQ1]
  have iQ0 : ((R1 : Int) * 4294967296 + e0) / (d1 * 4294967296 + d0) = Q0 := by
    rw [cY, show (R1 : Int) * 4294967296 + e0 = ((R1 * 4294967296 + e0 : Nat) : Int) by omega, ← Int.natCast_ediv, hQ0]
  have p1 : ((Q1 * Y : Nat) : Int) = (Q1 : Int) * Y := Int.natCast_mul ..
  have p0 : ((Q0 * Y : Nat) : Int) = (Q0 : Int) * Y := Int.natCast_mul ..
  have iR1 : (u : Int) * 4294967296 + e1 - Q1 * Y = R1 := by rw [← p1]; omega
  have iR0 : (R1 : Int) * 4294967296 + e0 - Q0 * Y = R0 := by rw [← p0]; omega
  have D1 : Dg (u : Int) d1 d0 e1 := ⟨by omega, by omega, by omega, by omega, by omega, by omega, by omega, by omega⟩
  have D0 : Dg (R1 : Int) d1 d0 e0 := ⟨by omega, by omega, by omega, by omega, by omega, by omega, by omega, by omega⟩
  have wY : IntKind.u64.wrap ((y : Int) * 2 ^ S) = (Y : Int) := by
    rw [← powCast, ← Int.natCast_mul, wrapNat, hYn, Nat.mod_eq_of_lt n2]
  have wv : IntKind.u64.wrap ((l : Int) * 2 ^ S) = (v : Int) := by
    rw [← powCast, ← Int.natCast_mul, wrapNat, hvn]
  have wu : bits BinOp.or IntKind.u64 (IntKind.u64.wrap ((h : Int) * 2 ^ S)) ((l : Int) / 2 ^ (64 - S)) = (u : Int) := by
    rw [← powCast, ← powCast, ← Int.natCast_mul, wrapNat, ← Int.natCast_ediv, Nat.mod_eq_of_lt hhS, u64_or_nat _ _ hhS hls, j1]
  have fin := norm_back (h * 18446744073709551616 + l) y S (Q1 * 4294967296 + Q0) R0 (by
    rw [← j2, hYn, Nat.add_mul, Nat.mul_right_comm]
    omega) (by rw [hYn]; exact hR0l)
  have core := div64_core (h : Int) l y Y d1 d0 u v e1 e0 Q1 R1 Q0 R0 S w (by omega) ⟨by omega, by omega⟩ ⟨by omega, by omega⟩ n3 hlz wY (by omega) (by rw [andLow Y n2, hd0]) wu wv (by omega) (by rw [andLow v hv64, he0]) D1 D0 cY.symm (by omega) iQ1 iR1 iQ0 iR0 ⟨by omega, by omega⟩
  refine core.mono fun e w' hw => ⟨?_, hw.2⟩
  rw [hw.1]
  have c1 : (Q1 : Int) * 4294967296 + Q0 = (((h * 18446744073709551616 + l) / y : Nat) : Int) := by rw [← fin.1]; omega
  have c2 : (R0 : Int) / 2 ^ S = (((h * 18446744073709551616 + l) % y : Nat) : Int) := by rw [← fin.2, ← powCast, ← Int.natCast_ediv]
  rw [c1, c2]

theorem div64_all (hi lo y : Int) (w : World) (h0 : 0 ≤ hi) (hy : hi < y) (hy64 : y ≤ 18446744073709551615) (hl : 0 ≤ lo ∧ lo ≤ 18446744073709551615) :
    Calls Tryd.prog 81 #[.int .u64 hi, .int .u64 lo, .int .u64 y] w fun e w' => e = .returned (.tuple #[.int .u64 ((hi * 18446744073709551616 + lo) / y), .int .u64 ((hi * 18446744073709551616 + lo) % y)]) ∧ ∃ m, w' = w.drewN m := by
  by_cases e : hi = 0
  · subst e
    have := div64_0 lo y w hl ⟨by omega, hy64⟩
    simpa using this
  · obtain ⟨h, rfl⟩ := Int.eq_ofNat_of_zero_le h0
    obtain ⟨l, rfl⟩ := Int.eq_ofNat_of_zero_le hl.1
    obtain ⟨z, rfl⟩ := Int.eq_ofNat_of_zero_le (show 0 ≤ y by omega)
    refine (div64_pos h l z w (by omega) (by omega) (by omega) (by omega)).mono fun e w' hw => ⟨?_, hw.2⟩
    rw [hw.1, Int.natCast_ediv, Int.natCast_emod, Int.natCast_add, Int.natCast_mul]
    rfl
end Go.Proofs.YtjjaamdgochilaaDoor

namespace Go.Proofs.YtjjaamdgochilaaDoor
open Go.RowKit
attribute [local go_sem] setCell_drewN alloc_drewN

theorem quoW_words {x : Nat → Int} {d : Int} (hx : Words x) (hd : 0 < d) (n : Nat) : Words (quoW x d n) := fun j => by
  have hr := remJ_bd x d n (n - 1 - j) hd
  have hb := hx j
  unfold quoW
  refine ⟨Int.ediv_nonneg (by omega) (by omega), ?_⟩
  have : (remJ x d n (n - 1 - j) * 18446744073709551616 + x j) / d < 18446744073709551616 := by
    apply Int.ediv_lt_of_lt_mul hd
    rw [Int.mul_comm 18446744073709551616 d]
    have : (remJ x d n (n - 1 - j) + 1) * 18446744073709551616 ≤ d * 18446744073709551616 := Int.mul_le_mul_of_nonneg_right (by omega) (by decide)
    omega
  omega
theorem div_val (x : Nat → Int) (d : Int) (n : Nat) : ∀ j, j ≤ n → val x (n - j) + remJ x d n j * 18446744073709551616 ^ (n - j) + d * (val (quoW x d n) n - val (quoW x d n) (n - j)) = val x n
  | 0, _ => by simp [remJ]
  | j + 1, h => by
    have ih := div_val x d n j (by omega)
    obtain ⟨k, hk⟩ : ∃ k, n - j = k + 1 := ⟨n - j - 1, by omega⟩
    have hk2 : n - (j + 1) = k := by omega
    have hk3 : n - 1 - j = k := by omega
    have hk4 : n - 1 - k = j := by omega
    rw [hk] at ih
    rw [hk2]
    have hq : quoW x d n k = (remJ x d n j * 18446744073709551616 + x k) / d := by unfold quoW; rw [hk4]
    have hr : remJ x d n (j + 1) = (remJ x d n j * 18446744073709551616 + x k) % d := by simp only [remJ]; rw [hk3]
    have hdm := Int.mul_ediv_add_emod (remJ x d n j * 18446744073709551616 + x k) d
    rw [← hq, ← hr] at hdm
    simp only [val] at ih
    rw [Int.pow_succ] at ih
    generalize (18446744073709551616 : Int) ^ k = p at *
    generalize remJ x d n (j + 1) = r' at *
    generalize remJ x d n j = r at *
    generalize quoW x d n k = q at *
    have e1 : x k = d * q + r' - r * 18446744073709551616 := by omega
    rw [e1] at ih
    grind
theorem sum_val {x y : Nat → Int} : ∀ n, val (sumW x y) n + carryW x y n * 18446744073709551616 ^ n = val x n + val y n
  | 0 => by simp [val, carryW]
  | n + 1 => by
    have ih := sum_val (x := x) (y := y) n
    have e1 : sumW x y n + carryW x y (n + 1) * 18446744073709551616 = x n + y n + carryW x y n := by simp only [sumW, carryW]; omega
    simp only [val]
    rw [Int.pow_succ]
    generalize (18446744073709551616 : Int) ^ n = p at *
    generalize carryW x y (n + 1) = c' at *
    have e2 : sumW x y n = x n + y n + carryW x y n - c' * 18446744073709551616 := by omega
    rw [e2]
    grind
theorem val_one (r : Int) : ∀ n, 0 < n → val (oneW r) n = r
  | 0, h => by omega
  | 1, _ => by simp [val, oneW]
  | n + 2, _ => by
    have ih := val_one r (n + 1) (by omega)
    show val (oneW r) (n + 1) + oneW r (n + 1) * _ = r
    rw [ih]; simp [oneW]
set_option maxHeartbeats 400000 in
theorem limDiv_ok (x : Nat → Int) (d : Int) (n : Nat) (hx : Words x) (hd : 0 < d ∧ d ≤ 18446744073709551615) (j : Nat) (hj : j < n) (w : World) : Calls Tryd.prog 81 #[.int .u64 (remJ x d n (n - 1 - j)), .int .u64 (x j), .int .u64 d] w fun e w' => e = .returned (.tuple #[.int .u64 (quoW x d n j), .int .u64 (remJ x d n (n - j))]) ∧ ∃ m, w' = w.drewN m := by
  have hr := remJ_bd x d n (n - 1 - j) hd.1
  have h := div64_all (remJ x d n (n - 1 - j)) (x j) d w hr.1 hr.2 hd.2 (hx j)
  have e1 : remJ x d n (n - j) = (remJ x d n (n - 1 - j) * 18446744073709551616 + x j) % d := by
    obtain ⟨k, hk⟩ : ∃ k, n - j = k + 1 := ⟨n - j - 1, by omega⟩
    rw [hk, show n - 1 - j = k by omega]
    simp only [remJ]; rw [show n - 1 - k = j by omega]
  rw [e1]; exact h
end Go.Proofs.YtjjaamdgochilaaDoor

namespace Go.Proofs.YtjjaamdgochilaaDoor
open Go.RowKit

theorem sizeL_congr {x y : Nat → Int} : ∀ n, (∀ i, i < n → x i = y i) → sizeL x n = sizeL y n
  | 0, _ => rfl
  | n + 1, h => by simp only [sizeL]; rw [h n (by omega), sizeL_congr n fun i hi => h i (by omega)]
theorem val_bare {x : Nat → Int} (m : Nat) : val x (sizeL x m) = val x m := by
  have h1 := val_more (sizeL_zero m fun i hi => segW_zero x 0 m i hi) m (sizeL_le _ m)
  have h2 : sizeL (segW x 0 m) m = sizeL x m := sizeL_congr m fun i hi => by rw [segW_lt x 0 m i hi, Nat.zero_add]
  rw [h2] at h1
  have hle := sizeL_le x m
  rw [val_congr (x := segW x 0 m) (y := x) m fun i hi => by rw [segW_lt x 0 m i hi, Nat.zero_add], val_congr (x := segW x 0 m) (y := x) (sizeL x m) fun i hi => by rw [segW_lt x 0 m i (by omega), Nat.zero_add]] at h1
  exact h1.symm

/-- -1, 0, 1 -/
def sgn (a b : Int) : Int := if a < b then -1 else if b < a then 1 else 0
theorem sgn_add (a b t : Int) : sgn (a + t) (b + t) = sgn a b := by
  unfold sgn
  by_cases h : a < b
  · rw [if_pos h, if_pos (by omega)]
  · rw [if_neg h, if_neg (by omega)]
    by_cases h' : b < a
    · rw [if_pos h', if_pos (by omega)]
    · rw [if_neg h', if_neg (by omega)]
/-- comparing words from the highest on is comparing values -/
theorem cmpL_val {x y : Nat → Int} (hx : Words x) (hy : Words y) : ∀ n, cmpL x y n = sgn (val x n) (val y n)
  | 0 => by simp [cmpL, sgn, val]
  | n + 1 => by
    have hxb := val_bd hx n
    have hyb := val_bd hy n
    have ih := cmpL_val hx hy n
    have hp := pw_pos n
    have e1 : val x (n + 1) = val x n + x n * 18446744073709551616 ^ n := rfl
    have e2 : val y (n + 1) = val y n + y n * 18446744073709551616 ^ n := rfl
    rw [e1, e2]
    simp only [cmpL]
    generalize (18446744073709551616 : Int) ^ n = P at *
    by_cases h1 : x n < y n
    · rw [if_pos h1]
      have : (x n + 1) * P ≤ y n * P := Int.mul_le_mul_of_nonneg_right (by omega) (by omega)
      rw [Int.add_mul, Int.one_mul] at this
      unfold sgn; rw [if_pos (by omega)]
    · rw [if_neg h1]
      by_cases h2 : y n < x n
      · rw [if_pos h2]
        have : (y n + 1) * P ≤ x n * P := Int.mul_le_mul_of_nonneg_right (by omega) (by omega)
        rw [Int.add_mul, Int.one_mul] at this
        unfold sgn; rw [if_neg (by omega), if_pos (by omega)]
      · have e : x n = y n := by omega
        rw [if_neg h2, ih, e, sgn_add]
/-- the longer one of two trimmed numbers is the greater -/
theorem val_longer {x y : Nat → Int} (hx : Words x) (hy : Words y) {n m : Nat} (h : n < m) (hm : sizeL y m = m) : val x n < val y m := by
  obtain ⟨k, rfl⟩ : ∃ k, m = k + 1 := ⟨m - 1, by omega⟩
  have hne : y k ≠ 0 := by
    intro e
    have : sizeL y (k + 1) = sizeL y k := by simp [sizeL, e]
    have := sizeL_le y k
    omega
  have h1 := (val_bd hx n).2
  have h2 := (val_bd hy k).1
  have h3 := pw_pos k
  have h4 := hy k
  have h5 : (18446744073709551616 : Int) ^ n ≤ 18446744073709551616 ^ k := by
    obtain ⟨q, rfl⟩ : ∃ q, k = n + q := ⟨k - n, by omega⟩
    rw [Int.pow_add]
    have := pw_pos n
    have := pw_pos q
    have : (18446744073709551616 : Int) ^ n * 1 ≤ 18446744073709551616 ^ n * 18446744073709551616 ^ q := Int.mul_le_mul_of_nonneg_left (by omega) (by omega)
    omega
  show _ < val y k + y k * 18446744073709551616 ^ k
  have : 1 * 18446744073709551616 ^ k ≤ y k * 18446744073709551616 ^ k := Int.mul_le_mul_of_nonneg_right (by omega) (by omega)
  omega

theorem rcmp_any (a a' : Option Addr) (n c n' c' : Nat) (x y : Nat → Int) (w : World) (hn : n < 4294967296) (hn' : n' < 4294967296) (h : Num w a n c x) (h' : Num w a' n' c' y) :
    Calls Tryd.prog 53 #[.slice a n c, .slice a' n' c'] w fun e w' => e = .returned (.int .i64 (sgn (val x n) (val y n'))) ∧ w = w' := by
  refine (cmp_any a a' n c n' c' x y w hn hn' h h').mono fun e w' hw => ⟨?_, hw.2.symm⟩
  rw [hw.1, cmpL_val h.2.2.1 h'.2.2.1, val_more h.2.2.2.1 _ (Nat.le_max_left n n'), val_more h'.2.2.2.1 _ (Nat.le_max_right n n')]
theorem size_num (a : Option Addr) (n c : Nat) (x : Nat → Int) (w : World) (hn : n < 4294967296) (h : Num w a n c x) :
    Calls Tryd.prog 60 #[.slice a n c] w fun e w' => e = .returned (.int .i64 (sizeL x n)) ∧ w = w' := by
  have h' := h
  obtain ⟨h1, h2, h3, h4, h5⟩ := h'
  rcases h5 with ⟨rfl, rfl⟩ | ⟨b, off, rfl, hb, hc⟩
  · obtain rfl : n = 0 := by omega
    exact (size_nil w).mono fun e w' hw => ⟨hw.1, hw.2.symm⟩
  · exact (size_any b off n c x w (by omega) hc).mono fun e w' hw => ⟨hw.1, hw.2.symm⟩

end Go.Proofs.YtjjaamdgochilaaDoor

namespace Go.Proofs.YtjjaamdgochilaaDoor
open Go.RowKit

theorem Num.cells {w : World} {a : Option Addr} {n c : Nat} {x : Nat → Int} (h : Num w a n c x) (hn : 0 < n) : ∃ b off, a = some ⟨b, off, none⟩ ∧ b < w.heap.size ∧ ∀ i, i < n → w.cell? ⟨b, off + i, none⟩ = some (.int .u64 (x i)) := by
  rcases h.2.2.2.2 with ⟨_, h'⟩ | ⟨b, off, h', hb, hc⟩
  · have := h.1; omega
  · exact ⟨b, off, h', hb, hc⟩

theorem sum_end {x y : Nat → Int} {s s' N : Nat} (hx : Words x) (hy : Words y) (zx : ∀ i, s ≤ i → x i = 0) (zy : ∀ i, s' ≤ i → y i = 0) (h : s < N) (h' : s' < N) : carryW x y N = 0 := by
  obtain ⟨q, rfl⟩ : ∃ q, N = q + 1 := ⟨N - 1, by omega⟩
  have := carryW_01 hx hy q
  simp only [carryW]; rw [zx q (by omega), zy q (by omega)]; omega
end Go.Proofs.YtjjaamdgochilaaDoor

namespace Go.Proofs.YtjjaamdgochilaaDoor
open Go.RowKit

theorem bor_val {x y b : Int} (hx : 0 ≤ x ∧ x ≤ 18446744073709551615) (hy : 0 ≤ y ∧ y ≤ 18446744073709551615) (hb : 0 ≤ b ∧ b ≤ 1) : (x - y - b) % 18446744073709551616 - bor x y b * 18446744073709551616 = x - y - b := by
  unfold bor; split <;> omega
theorem dif_val {x y : Nat → Int} (hx : Words x) (hy : Words y) : ∀ n, val (difW x y) n - borW x y n * 18446744073709551616 ^ n = val x n - val y n
  | 0 => by simp [val, borW]
  | n + 1 => by
    have ih := dif_val hx hy n
    have h := bor_val (hx n) (hy n) (borW_01 x y n)
    show val (difW x y) n + difW x y n * 18446744073709551616 ^ n - bor (x n) (y n) (borW x y n) * 18446744073709551616 ^ (n + 1) = val x n + x n * 18446744073709551616 ^ n - (val y n + y n * 18446744073709551616 ^ n)
    have hd : difW x y n = (x n - y n - borW x y n) % 18446744073709551616 := rfl
    rw [← hd] at h
    rw [Int.pow_succ]
    generalize (18446744073709551616 : Int) ^ n = P at *
    grind
/-- no borrow is left over where y is no greater -/
theorem borW_end {x y : Nat → Int} (hx : Words x) (hy : Words y) {n : Nat} (h : val y n ≤ val x n) : borW x y n = 0 := by
  have e := dif_val hx hy n
  have h1 := val_bd (difW_words x y) n
  have h2 := borW_01 x y n
  have h3 := pw_pos n
  by_cases h0 : borW x y n = 0
  · exact h0
  · have : borW x y n = 1 := by omega
    rw [this] at e; omega

end Go.Proofs.YtjjaamdgochilaaDoor

namespace Go.Proofs.YtjjaamdgochilaaDoor
open Go.RowKit

set_option maxHeartbeats 400000 in
theorem nlen_any (a : Option Addr) (n c : Nat) (x : Nat → Int) (w : World) (hn : n < 100000000) (h : Num w a n c x) :
    Calls Tryd.prog 65 #[.slice a n c] w fun e w' => e = .returned (.int .i64 (lenL x n)) ∧ w = w' := by
  have hb := bare_any a n c x w (by omega) h
  have hle := sizeL_le x n
  by_cases h0 : sizeL x n = 0
  · have HL : Hid (lenL x n = 0) := by show _ = _; simp [lenL, h0]
    rw [h0] at hb
    clear h0 h
    go_enter Tryd.func65, Tryd.ntmps65
    go_wp2_with (go_at_call 85; refine hb.mono ?_; rintro e w' ⟨rfl, rfl⟩)
    go_ret
    exact ⟨ret_int HL.out.symm, rfl⟩
  · obtain ⟨j, hj⟩ : ∃ j, sizeL x n = j + 1 := ⟨sizeL x n - 1, by omega⟩
    have HL : Hid (lenL x n = 64 * (j : Int) + Lib.bitLen (x j).toNat) := by show _ = _; simp [lenL, hj]; omega
    obtain ⟨b, off, rfl, hbs, hc⟩ := h.cells (by omega)
    rw [hj] at hb
    have hcj := hc j (by omega)
    have hbx := h.2.2.1 j
    have hbl := bitLen64 (x j).toNat
    have hj' : j + 1 ≤ n := by omega
    clear h0 hc hj hle h
    have hcl := Tryd.bits_Len64 (x j) w hbx.1 hbx.2
    generalize Lib.bitLen (x j).toNat = L at *
    go_enter Tryd.func65, Tryd.ntmps65
    go_wp2_with (first | (go_at_call 85; refine hb.mono ?_; rintro e w' ⟨rfl, rfl⟩) | (go_at_call 83; refine hcl.mono ?_; rintro e w' ⟨rfl, rfl⟩))
    go_ret
    exact ⟨ret_int (by rw [HL.out]; omega), rfl⟩
set_option maxHeartbeats 400000 in
theorem rlen_nil (w : World) : Calls Tryd.prog 62 #[.slice none 0 0] w fun e w' => e = .returned (.int .i64 0) ∧ w = w' := by
  have hs := size_nil w
  go_enter Tryd.func62, Tryd.ntmps62
  go_wp2_with (go_at_call 60; refine hs.mono ?_; rintro e w' ⟨rfl, rfl⟩)
  go_ret
  exact ⟨rfl, rfl⟩
theorem rlen_num (a : Option Addr) (n c : Nat) (x : Nat → Int) (w : World) (hn : n < 100000000) (h : Num w a n c x) :
    Calls Tryd.prog 62 #[.slice a n c] w fun e w' => e = .returned (.int .i64 (lenL x n)) ∧ w = w' := by
  have h' := h
  obtain ⟨h1, h2, h3, h4, h5⟩ := h'
  rcases h5 with ⟨rfl, rfl⟩ | ⟨b, off, rfl, hb, hc⟩
  · obtain rfl : n = 0 := by omega
    exact rlen_nil w
  · exact (len_any b off n c x w hn h3 hc).mono fun e w' hw => ⟨hw.1, hw.2.symm⟩
theorem radd_val (a a' : Option Addr) (n c n' c' : Nat) (x y : Nat → Int) (w : World) (hn : n < 4000000000) (hn' : n' < 4000000000) (h : Num w a n c x) (h' : Num w a' n' c' y) :
    Calls Tryd.prog 50 #[.slice a n c, .slice a' n' c'] w fun e w' => ∃ g k cap z, e = .returned (.slice (some ⟨g, 0, none⟩) k cap) ∧ k ≤ max n n' + 1 ∧ Num w' (some ⟨g, 0, none⟩) k cap z ∧ val z k = val x n + val y n' ∧ Below w.heap.size w w' := by
  refine (radd_any a a' n c n' c' x y w (by omega) (by omega) h h').mono fun e w' ⟨g, k, cap, e1, hk, hN, hB⟩ => ⟨g, k, cap, _, e1, hk, hN, ?_, hB⟩
  have e := sum_val (x := x) (y := y) (max n n' + 1)
  rw [sum_end h.2.2.1 h'.2.2.1 h.2.2.2.1 h'.2.2.2.1 (by omega) (by omega), val_more h.2.2.2.1 _ (by omega), val_more h'.2.2.2.1 _ (by omega), val_more hN.2.2.2.1 _ hk] at e
  omega
end Go.Proofs.YtjjaamdgochilaaDoor

namespace Go.Proofs.YtjjaamdgochilaaDoor
open Go.RowKit

theorem apart_of {w : World} {a : Option Addr} {n c : Nat} {x : Nat → Int} (h : Num w a n c x) : Apart a w.heap.size := by
  intro p hp
  rcases h.2.2.2.2 with ⟨h, _⟩ | ⟨b, off, h, hb, _⟩
  · rw [h] at hp; cases hp
  · rw [h] at hp; cases hp; exact Nat.ne_of_lt hb
theorem val_zero : ∀ m, val (fun _ => 0) m = 0 := by intro m; induction m with | zero => rfl | succ m ih => simp only [val]; rw [ih]; simp

end Go.Proofs.YtjjaamdgochilaaDoor

namespace Go.Proofs.YtjjaamdgochilaaDoor
open Go.RowKit

theorem wrap_mod (a : Int) : IntKind.u64.wrap a = a % 18446744073709551616 := by
  simp only [IntKind.wrap, IntKind.bits, IntKind.signed]
  simp
theorem p2_pos (n : Nat) : (0 : Int) < 2 ^ n := Int.pow_pos (by decide)
theorem p2_split {r : Nat} (hr : r ≤ 64) : (2 : Int) ^ (64 - r) * 2 ^ r = 18446744073709551616 := by
  rw [← Int.pow_add, show 64 - r + r = 64 by omega]; rfl
/-- what goes beyond a word that is shifted by r -/
def hiW (x : Int) (r : Nat) : Int := x * 2 ^ r / 18446744073709551616
theorem hiW_eq (x : Int) {r : Nat} (hr : r ≤ 64) : x / 2 ^ (64 - r) = hiW x r := by
  unfold hiW
  rw [← p2_split hr, Int.mul_ediv_mul_of_pos_left _ _ (p2_pos r)]
theorem hiW_bd {x : Int} (hx : 0 ≤ x ∧ x ≤ 18446744073709551615) (r : Nat) : 0 ≤ hiW x r ∧ hiW x r < 2 ^ r := by
  have hp := p2_pos r
  unfold hiW
  refine ⟨Int.ediv_nonneg (Int.mul_nonneg hx.1 (by omega)) (by decide), Int.ediv_lt_of_lt_mul (by decide) ?_⟩
  rw [Int.mul_comm (2 ^ r)]
  exact Int.mul_lt_mul_of_pos_right (by omega) hp
theorem p2_le {r : Nat} (hr : r < 64) : (2 : Int) ^ r ≤ 9223372036854775808 := by
  have h := p2_split (show r ≤ 64 by omega)
  have h1 : (2 : Int) ^ (64 - r) = 2 ^ (63 - r) * 2 := by rw [← Int.pow_succ]; congr 1; omega
  have h2 := p2_pos (63 - r)
  rw [h1] at h
  have : (1 : Int) * (2 * 2 ^ r) ≤ 2 ^ (63 - r) * (2 * 2 ^ r) := Int.mul_le_mul_of_nonneg_right (by omega) (by have := p2_pos r; omega)
  rw [← Int.mul_assoc] at this
  have e : (2 : Int) ^ (63 - r) * (2 * 2 ^ r) = 18446744073709551616 := by rw [← Int.mul_assoc]; exact h
  omega
/-- the two parts of a shifted word have no bit in common -/
theorem or_shl {y b : Int} {r : Nat} (hr : r < 64) (hy : 0 ≤ y) (hb : 0 ≤ b ∧ b < 2 ^ r) : orW b (IntKind.u64.wrap (y * 2 ^ r)) = y * 2 ^ r % 18446744073709551616 + b := by
  have hle := p2_le hr
  have hp := p2_pos r
  have hme : y * 2 ^ r % (2 ^ (64 - r) * 2 ^ r) = y % 2 ^ (64 - r) * 2 ^ r := by
    have := Int.mul_emod_mul_of_pos y (2 ^ (64 - r)) hp
    rw [Int.mul_comm y, Int.mul_comm (2 ^ (64 - r)), this, Int.mul_comm]
  rw [orW_eq b _ (by omega) (wrap_word _), wrap_mod, ← p2_split (show r ≤ 64 by omega), hme]
  have hm0 := Int.emod_nonneg y (show (2 : Int) ^ (64 - r) ≠ 0 by have := p2_pos (64 - r); omega)
  obtain ⟨u, hu⟩ := Int.eq_ofNat_of_zero_le hm0
  obtain ⟨b', rfl⟩ := Int.eq_ofNat_of_zero_le hb.1
  rw [hu]
  have e1 : ((u : Int) * 2 ^ r).toNat = 2 ^ r * u := by
    have : ((u : Int) * 2 ^ r) = ((2 ^ r * u : Nat) : Int) := by rw [Int.natCast_mul, powCast, Int.mul_comm]
    rw [this]; exact Int.toNat_natCast _
  have hb2 : b' < 2 ^ r := by
    have h := hb.2
    rw [← powCast] at h; omega
  rw [e1, Int.toNat_natCast, Nat.or_comm, ← Nat.two_pow_add_eq_or_of_lt hb2]
  rw [Int.natCast_add, Int.natCast_mul, powCast, Int.mul_comm]
/-- what comes in from the word below -/
def prevW (x : Nat → Int) (r i : Nat) : Int := if i = 0 then 0 else hiW (x (i - 1)) r
/-- the words of x times 2^r -/
def shW (x : Nat → Int) (r i : Nat) : Int := x i * 2 ^ r % 18446744073709551616 + prevW x r i
theorem prevW_bd {x : Nat → Int} (hx : Words x) (r i : Nat) : 0 ≤ prevW x r i ∧ prevW x r i < 2 ^ r := by
  unfold prevW; split
  · have := p2_pos r; omega
  · exact hiW_bd (hx _) r
theorem shW_or {x : Nat → Int} (hx : Words x) {r : Nat} (hr : r < 64) (i : Nat) : orW (prevW x r i) (IntKind.u64.wrap (x i * 2 ^ r)) = shW x r i := or_shl hr (hx i).1 (prevW_bd hx r i)
theorem sh_val (x : Nat → Int) (r : Nat) : ∀ m, val (shW x r) m + prevW x r m * 18446744073709551616 ^ m = val x m * 2 ^ r
  | 0 => by simp [val, prevW]
  | m + 1 => by
    have ih := sh_val x r m
    show val (shW x r) m + shW x r m * 18446744073709551616 ^ m + prevW x r (m + 1) * 18446744073709551616 ^ (m + 1) = (val x m + x m * 18446744073709551616 ^ m) * 2 ^ r
    have e1 : prevW x r (m + 1) = x m * 2 ^ r / 18446744073709551616 := rfl
    have e2 : shW x r m = x m * 2 ^ r % 18446744073709551616 + prevW x r m := rfl
    have e3 := Int.emod_add_mul_ediv (x m * 2 ^ r) 18446744073709551616
    rw [e1, e2, Int.pow_succ]
    generalize x m * 2 ^ r / 18446744073709551616 = K at *
    generalize x m * 2 ^ r % 18446744073709551616 = R at *
    generalize (18446744073709551616 : Int) ^ m = P at *
    grind
theorem sh_end {x : Nat → Int} {n : Nat} (zx : ∀ i, n ≤ i → x i = 0) (r m : Nat) (h : n < m) : val (shW x r) m = val x n * 2 ^ r := by
  have e := sh_val x r m
  have e1 : prevW x r m = 0 := by
    unfold prevW hiW; rw [if_neg (by omega), zx (m - 1) (by omega)]; simp
  rw [e1, val_more zx m (by omega)] at e
  omega
/-- words that are moved up by q -/
def upW (f : Nat → Int) (q j : Nat) : Int := if q ≤ j then f (j - q) else 0
theorem val_up (f : Nat → Int) (q : Nat) : ∀ m, val (upW f q) (q + m) = val f m * 18446744073709551616 ^ q
  | 0 => by
    have : ∀ k, k ≤ q → val (upW f q) k = 0 := by
      intro k
      induction k with
      | zero => intro _; rfl
      | succ k ih =>
        intro hk
        show val (upW f q) k + upW f q k * 18446744073709551616 ^ k = 0
        rw [ih (by omega)]
        unfold upW; rw [if_neg (by omega)]; simp
    rw [Nat.add_zero, this q (Nat.le_refl _)]; simp [val]
  | m + 1 => by
    have ih := val_up f q m
    show val (upW f q) (q + m) + upW f q (q + m) * 18446744073709551616 ^ (q + m) = (val f m + f m * 18446744073709551616 ^ m) * 18446744073709551616 ^ q
    rw [ih]
    have e : upW f q (q + m) = f m := by unfold upW; rw [if_pos (by omega)]; congr 1; omega
    rw [e, Int.pow_add]
    generalize (18446744073709551616 : Int) ^ m = P
    generalize (18446744073709551616 : Int) ^ q = Q
    grind
theorem finL_up {x : Nat → Int} (hx : Words x) (q : Nat) {r : Nat} (hr : r < 64) : finL x q r = upW (shW x r) q := by
  funext j
  unfold finL upW
  by_cases h : q ≤ j
  · rw [if_pos h, if_pos h, ← shW_or hx hr (j - q)]
    congr 1
    unfold lowp prevW
    by_cases h0 : j - q = 0
    · rw [if_pos h0, if_neg (by omega)]
    · rw [if_neg h0]
      by_cases hr0 : 0 < r
      · rw [if_pos (by omega), hiW_eq _ (by omega)]
      · obtain rfl : r = 0 := by omega
        rw [if_neg (by omega)]
        unfold hiW
        have := hx (j - q - 1)
        omega
  · rw [if_neg h, if_neg h]
theorem p64 (q r : Nat) : (2 : Int) ^ r * 18446744073709551616 ^ q = 2 ^ (64 * q + r) := by
  rw [Int.pow_add, Int.pow_mul, Int.mul_comm]; rfl
/-- the value of what the document's Left lays -/
theorem finL_val {x : Nat → Int} {n : Nat} (hx : Words x) (zx : ∀ i, n ≤ i → x i = 0) (q : Nat) {r : Nat} (hr : r < 64) : val (finL x q r) (n + q + 1) = val x n * 2 ^ (64 * q + r) := by
  rw [finL_up hx q hr, show n + q + 1 = q + (n + 1) by omega, val_up, sh_end zx r (n + 1) (by omega), Int.mul_assoc, p64]
end Go.Proofs.YtjjaamdgochilaaDoor
