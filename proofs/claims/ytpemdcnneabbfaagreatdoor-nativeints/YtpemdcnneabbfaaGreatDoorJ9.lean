/-
  Texts that the proof leans on.
-/
import Derived.Test.YtpemdcnneabbfaaGreatDoorJ6
import Derived.Test.YtpemdcnneabbfaaGreatDoorJ3
import Derived.Test.YtpemdcnneabbfaaGreatDoorJ4
import Derived.Deep.Cut
import Derived.Deep.CutRange
set_option linter.unusedVariables false
set_option linter.unusedSimpArgs false
set_option linter.unusedSectionVars false
set_option maxRecDepth 20000
namespace Go.Proofs.YtpemdcnneabbfaaGreatDoor
open Go.RowKit
section
theorem wrap3 {a e b R : Int} (h : a * 4294967296 + e - b = R) (h0 : 0 ≤ R) (h1 : R ≤ 18446744073709551615) : IntKind.u64.wrap (IntKind.u64.wrap (IntKind.u64.wrap (a * 4294967296) + e) - IntKind.u64.wrap b) = R := by
  simp only [IntKind.wrap, IntKind.bits, IntKind.signed]
  simp
  omega

set_option maxHeartbeats 8000000 in
theorem div64_core (hi lo y Y d1 d0 u v e1 e0 Q1 R1 Q0 R0 : Int) (S : Nat) (w : World) (hh : 0 < hi) (hl : 0 ≤ lo ∧ lo ≤ 18446744073709551615) (hy : hi < y ∧ y ≤ 18446744073709551615) (hS : S < 64)
    (hlz : Calls Tryz.prog 77 #[.int .u64 y] w fun e w' => e = .returned (.int .i64 (S : Int)) ∧ w = w')
    (hY : IntKind.u64.wrap (y * 2 ^ S) = Y) (hd1 : Y / 4294967296 = d1) (hd0 : bits BinOp.and IntKind.u64 Y 4294967295 = d0)
    (hu : bits BinOp.or IntKind.u64 (IntKind.u64.wrap (hi * 2 ^ S)) (lo / 2 ^ (64 - S)) = u) (hv : IntKind.u64.wrap (lo * 2 ^ S) = v) (he1 : v / 4294967296 = e1) (he0 : bits BinOp.and IntKind.u64 v 4294967295 = e0)
    (D1 : Dg u d1 d0 e1) (D0 : Dg R1 d1 d0 e0) (hYe : Y = d1 * 4294967296 + d0) (hY64 : Y ≤ 18446744073709551615)
    (hQ1 : (u * 4294967296 + e1) / (d1 * 4294967296 + d0) = Q1) (hR1 : u * 4294967296 + e1 - Q1 * Y = R1) (hQ0 : (R1 * 4294967296 + e0) / (d1 * 4294967296 + d0) = Q0) (hR0 : R1 * 4294967296 + e0 - Q0 * Y = R0) (hR0b : 0 ≤ R0 ∧ R0 ≤ 18446744073709551615) :
    Calls Tryz.prog 38 #[.int .u64 hi, .int .u64 lo, .int .u64 y] w fun e w' => e = .returned (.tuple #[.int .u64 (Q1 * 4294967296 + Q0), .int .u64 (R0 / 2 ^ S)]) ∧ ∃ m, w' = w.drewN m := by
  have hy0 : (y == 0) = false := by simp; omega
  have hh0 : (hi == 0) = false := by simp; omega
  have f1 := D1.first
  have f0 := D0.first
  rw [hQ1] at f1
  rw [hQ0] at f0
  have d1p := D1.a1
  have d1q := D1.a2
  have d0p := D1.b1
  have d0q := D1.b2
  have e1p := D1.e1
  have e1q := D1.e2
  have e0p := D0.e1
  have e0q := D0.e2
  have up := D1.u1
  have uq : u ≤ 18446744073709551615 := by have := D1.u2; omega
  have vp := D0.u1
  have vq : R1 ≤ 18446744073709551615 := by have := D0.u2; omega
  have hW1 : IntKind.u64.wrap (IntKind.u64.wrap (IntKind.u64.wrap (u * 4294967296) + e1) - IntKind.u64.wrap (Q1 * Y)) = R1 := wrap3 hR1 vp vq
  have hW0 : IntKind.u64.wrap (IntKind.u64.wrap (IntKind.u64.wrap (R1 * 4294967296) + e0) - IntKind.u64.wrap (Q0 * Y)) = R0 := wrap3 hR0 hR0b.1 hR0b.2
  have HQ1 : Hid ((u * 4294967296 + e1) / (d1 * 4294967296 + d0) = Q1) := hQ1
  have HQ0 : Hid ((R1 * 4294967296 + e0) / (d1 * 4294967296 + d0) = Q0) := hQ0
  have k1 : Q1 < 4294967296 := by rw [← hQ1]; exact D1.lt
  have k0 : Q0 < 4294967296 := by rw [← hQ0]; exact D0.lt
  have hq10 : 0 ≤ Q1 := by rw [← hQ1]; exact D1.nonneg
  have hq00 : 0 ≤ Q0 := by rw [← hQ0]; exact D0.nonneg
  clear hQ1 hYe hR1 hQ0 hR0
  obtain ⟨q, hq⟩ : ∃ q, u / d1 = q := ⟨_, rfl⟩
  obtain ⟨r, hr⟩ : ∃ r, u % d1 = r := ⟨_, rfl⟩
  rw [hq, hr] at f1
  obtain ⟨p2, hp2⟩ : ∃ q, R1 / d1 = q := ⟨_, rfl⟩
  obtain ⟨s2, hs2⟩ : ∃ r, R1 % d1 = r := ⟨_, rfl⟩
  rw [hp2, hs2] at f0
  obtain ⟨f1a, f1b, f1c, f1d, f1e⟩ := f1
  obtain ⟨f0a, f0b, f0c, f0d, f0e⟩ := f0
  have hqd0 : 0 ≤ q * d1 := Int.mul_nonneg (by omega) (by omega)
  have hqd1 : q * d1 ≤ 18446744073709551615 := by omega
  have hqr : u - q * d1 = r := by omega
  have hpd0 : 0 ≤ p2 * d1 := Int.mul_nonneg (by omega) (by omega)
  have hpd1 : p2 * d1 ≤ 18446744073709551615 := by omega
  have hpr : R1 - p2 * d1 = s2 := by omega
  have F1A : Hid (q * d1 + r = u) := f1a
  have F0A : Hid (p2 * d1 + s2 = R1) := f0a
  have D1H : Hid (Dg u d1 d0 e1) := D1
  have D0H : Hid (Dg R1 d1 d0 e0) := D0
  clear f1a hr f0a hs2 D1 D0
  go_enter Tryz.func38, Tryz.ntmps38
  go_wp2_with (first | (go_at_call 77; refine hlz.mono ?_; rintro e w' ⟨rfl, rfl⟩))
  go_loop [15, 16] (fun a b => ∃ q r, a = .int .u64 q ∧ b = .int .u64 r ∧ Hid (q * d1 + r = u) ∧ Q1 ≤ q ∧ q ≤ 4294967297 ∧ 0 ≤ r ∧ r < 4294967296) (fun a _ => (intOf a).toNat)
  case atStart => exact ⟨q, r, by first | rfl | rw [hq], rfl, F1A, f1b, f1c, f1d, f1e⟩
  case round =>
    clear f1b f1c f1d f1e hqd0 hqd1 F1A hqr
    obtain ⟨q1, r1, rfl, rfl, hqr, hge, hle, hr0, hr1⟩ := hrel
    have hm0 : 0 ≤ q1 * d0 := Int.mul_nonneg (by omega) d0p
    by_cases hbig : 4294967296 ≤ q1
    · have hg1 : Q1 ≤ q1 - 1 := by have := D1H.out.big' hbig; rw [HQ1.out] at this; exact this
      by_cases hb : r1 + d1 < 4294967296
      · go_wp2
        go_round
        case rel => exact ⟨q1 - 1, r1 + d1, rfl, rfl, by show _ = _; rw [Int.sub_mul]; have := hqr.out; omega, hg1, by omega, by omega, hb⟩
        case measure => simp [intOf]; omega
      · have hqq : q1 - 1 = Q1 := by
          have := D1H.out.right' (q := q1 - 1) (r := r1 + d1) (by rw [Int.sub_mul]; have := hqr.out; omega) (by rw [HQ1.out]; exact hg1) (by omega) (by omega)
          rw [HQ1.out] at this; exact this.symm
        go_wp2
        clear hqr hge hle hr0 hr1 hm0
        go_loop [18, 16] (fun a b => ∃ q r, a = .int .u64 q ∧ b = .int .u64 r ∧ Hid (q * d1 + r = R1) ∧ Q0 ≤ q ∧ q ≤ 4294967297 ∧ 0 ≤ r ∧ r < 4294967296) (fun a _ => (intOf a).toNat)
        case atStart => exact ⟨p2, s2, by first | rfl | rw [hp2], rfl, F0A, f0b, f0c, f0d, f0e⟩
        case round =>
          clear f0b f0c f0d f0e hpd0 hpd1 F0A hpr
          obtain ⟨q3, r3, rfl, rfl, hqr, hge, hle, hr0, hr1⟩ := hrel
          have hm0 : 0 ≤ q3 * d0 := Int.mul_nonneg (by omega) d0p
          by_cases hbig : 4294967296 ≤ q3
          · have hg1 : Q0 ≤ q3 - 1 := by have := D0H.out.big' hbig; rw [HQ0.out] at this; exact this
            by_cases hb : r3 + d1 < 4294967296
            · go_wp2
              go_round
              case rel => exact ⟨q3 - 1, r3 + d1, rfl, rfl, by show _ = _; rw [Int.sub_mul]; have := hqr.out; omega, hg1, by omega, by omega, hb⟩
              case measure => simp [intOf]; omega
            · have hqq : q3 - 1 = Q0 := by
                have := D0H.out.right' (q := q3 - 1) (r := r3 + d1) (by rw [Int.sub_mul]; have := hqr.out; omega) (by rw [HQ0.out]; exact hg1) (by omega) (by omega)
                rw [HQ0.out] at this; exact this.symm
              go_wp2
              go_ret2
              exact ⟨rfl, 0, rfl⟩
          · have hsm : q3 < 4294967296 := by omega
            have hm1 : q3 * d0 ≤ 4294967295 * 4294967295 := Int.mul_le_mul (by omega) (by omega) d0p (by decide)
            by_cases ht : 4294967296 * r3 + e0 < q3 * d0
            · have hg1 : Q0 ≤ q3 - 1 := by have := D0H.out.big hqr.out ht; rw [HQ0.out] at this; exact this
              by_cases hb : r3 + d1 < 4294967296
              · go_wp2
                go_round
                case rel => exact ⟨q3 - 1, r3 + d1, rfl, rfl, by show _ = _; rw [Int.sub_mul]; have := hqr.out; omega, hg1, by omega, by omega, hb⟩
                case measure => simp [intOf]; omega
              · have hqq : q3 - 1 = Q0 := by
                  have := D0H.out.right' (q := q3 - 1) (r := r3 + d1) (by rw [Int.sub_mul]; have := hqr.out; omega) (by rw [HQ0.out]; exact hg1) (by omega) (by omega)
                  rw [HQ0.out] at this; exact this.symm
                go_wp2
                go_ret2
                exact ⟨rfl, 0, rfl⟩
            · obtain rfl : Q0 = q3 := by
                have := D0H.out.right hqr.out (by rw [HQ0.out]; exact hge) (by omega)
                rw [HQ0.out] at this; exact this
              go_wp2
              go_ret2
              exact ⟨rfl, 0, rfl⟩
    · have hsm : q1 < 4294967296 := by omega
      have hm1 : q1 * d0 ≤ 4294967295 * 4294967295 := Int.mul_le_mul (by omega) (by omega) d0p (by decide)
      by_cases ht : 4294967296 * r1 + e1 < q1 * d0
      · have hg1 : Q1 ≤ q1 - 1 := by have := D1H.out.big hqr.out ht; rw [HQ1.out] at this; exact this
        by_cases hb : r1 + d1 < 4294967296
        · go_wp2
          go_round
          case rel => exact ⟨q1 - 1, r1 + d1, rfl, rfl, by show _ = _; rw [Int.sub_mul]; have := hqr.out; omega, hg1, by omega, by omega, hb⟩
          case measure => simp [intOf]; omega
        · have hqq : q1 - 1 = Q1 := by
            have := D1H.out.right' (q := q1 - 1) (r := r1 + d1) (by rw [Int.sub_mul]; have := hqr.out; omega) (by rw [HQ1.out]; exact hg1) (by omega) (by omega)
            rw [HQ1.out] at this; exact this.symm
          go_wp2
          clear hqr hge hle hr0 hr1 hm0
          go_loop [18, 16] (fun a b => ∃ q r, a = .int .u64 q ∧ b = .int .u64 r ∧ Hid (q * d1 + r = R1) ∧ Q0 ≤ q ∧ q ≤ 4294967297 ∧ 0 ≤ r ∧ r < 4294967296) (fun a _ => (intOf a).toNat)
          case atStart => exact ⟨p2, s2, by first | rfl | rw [hp2], rfl, F0A, f0b, f0c, f0d, f0e⟩
          case round =>
            clear f0b f0c f0d f0e hpd0 hpd1 F0A hpr
            obtain ⟨q3, r3, rfl, rfl, hqr, hge, hle, hr0, hr1⟩ := hrel
            have hm0 : 0 ≤ q3 * d0 := Int.mul_nonneg (by omega) d0p
            by_cases hbig : 4294967296 ≤ q3
            · have hg1 : Q0 ≤ q3 - 1 := by have := D0H.out.big' hbig; rw [HQ0.out] at this; exact this
              by_cases hb : r3 + d1 < 4294967296
              · go_wp2
                go_round
                case rel => exact ⟨q3 - 1, r3 + d1, rfl, rfl, by show _ = _; rw [Int.sub_mul]; have := hqr.out; omega, hg1, by omega, by omega, hb⟩
                case measure => simp [intOf]; omega
              · have hqq : q3 - 1 = Q0 := by
                  have := D0H.out.right' (q := q3 - 1) (r := r3 + d1) (by rw [Int.sub_mul]; have := hqr.out; omega) (by rw [HQ0.out]; exact hg1) (by omega) (by omega)
                  rw [HQ0.out] at this; exact this.symm
                go_wp2
                go_ret2
                exact ⟨rfl, 0, rfl⟩
            · have hsm : q3 < 4294967296 := by omega
              have hm1 : q3 * d0 ≤ 4294967295 * 4294967295 := Int.mul_le_mul (by omega) (by omega) d0p (by decide)
              by_cases ht : 4294967296 * r3 + e0 < q3 * d0
              · have hg1 : Q0 ≤ q3 - 1 := by have := D0H.out.big hqr.out ht; rw [HQ0.out] at this; exact this
                by_cases hb : r3 + d1 < 4294967296
                · go_wp2
                  go_round
                  case rel => exact ⟨q3 - 1, r3 + d1, rfl, rfl, by show _ = _; rw [Int.sub_mul]; have := hqr.out; omega, hg1, by omega, by omega, hb⟩
                  case measure => simp [intOf]; omega
                · have hqq : q3 - 1 = Q0 := by
                    have := D0H.out.right' (q := q3 - 1) (r := r3 + d1) (by rw [Int.sub_mul]; have := hqr.out; omega) (by rw [HQ0.out]; exact hg1) (by omega) (by omega)
                    rw [HQ0.out] at this; exact this.symm
                  go_wp2
                  go_ret2
                  exact ⟨rfl, 0, rfl⟩
              · obtain rfl : Q0 = q3 := by
                  have := D0H.out.right hqr.out (by rw [HQ0.out]; exact hge) (by omega)
                  rw [HQ0.out] at this; exact this
                go_wp2
                go_ret2
                exact ⟨rfl, 0, rfl⟩
      · obtain rfl : Q1 = q1 := by
          have := D1H.out.right hqr.out (by rw [HQ1.out]; exact hge) (by omega)
          rw [HQ1.out] at this; exact this
        go_wp2
        clear hqr hge hle hr0 hr1 hm0
        go_loop [18, 16] (fun a b => ∃ q r, a = .int .u64 q ∧ b = .int .u64 r ∧ Hid (q * d1 + r = R1) ∧ Q0 ≤ q ∧ q ≤ 4294967297 ∧ 0 ≤ r ∧ r < 4294967296) (fun a _ => (intOf a).toNat)
        case atStart => exact ⟨p2, s2, by first | rfl | rw [hp2], rfl, F0A, f0b, f0c, f0d, f0e⟩
        case round =>
          clear f0b f0c f0d f0e hpd0 hpd1 F0A hpr
          obtain ⟨q3, r3, rfl, rfl, hqr, hge, hle, hr0, hr1⟩ := hrel
          have hm0 : 0 ≤ q3 * d0 := Int.mul_nonneg (by omega) d0p
          by_cases hbig : 4294967296 ≤ q3
          · have hg1 : Q0 ≤ q3 - 1 := by have := D0H.out.big' hbig; rw [HQ0.out] at this; exact this
            by_cases hb : r3 + d1 < 4294967296
            · go_wp2
              go_round
              case rel => exact ⟨q3 - 1, r3 + d1, rfl, rfl, by show _ = _; rw [Int.sub_mul]; have := hqr.out; omega, hg1, by omega, by omega, hb⟩
              case measure => simp [intOf]; omega
            · have hqq : q3 - 1 = Q0 := by
                have := D0H.out.right' (q := q3 - 1) (r := r3 + d1) (by rw [Int.sub_mul]; have := hqr.out; omega) (by rw [HQ0.out]; exact hg1) (by omega) (by omega)
                rw [HQ0.out] at this; exact this.symm
              go_wp2
              go_ret2
              exact ⟨rfl, 0, rfl⟩
          · have hsm : q3 < 4294967296 := by omega
            have hm1 : q3 * d0 ≤ 4294967295 * 4294967295 := Int.mul_le_mul (by omega) (by omega) d0p (by decide)
            by_cases ht : 4294967296 * r3 + e0 < q3 * d0
            · have hg1 : Q0 ≤ q3 - 1 := by have := D0H.out.big hqr.out ht; rw [HQ0.out] at this; exact this
              by_cases hb : r3 + d1 < 4294967296
              · go_wp2
                go_round
                case rel => exact ⟨q3 - 1, r3 + d1, rfl, rfl, by show _ = _; rw [Int.sub_mul]; have := hqr.out; omega, hg1, by omega, by omega, hb⟩
                case measure => simp [intOf]; omega
              · have hqq : q3 - 1 = Q0 := by
                  have := D0H.out.right' (q := q3 - 1) (r := r3 + d1) (by rw [Int.sub_mul]; have := hqr.out; omega) (by rw [HQ0.out]; exact hg1) (by omega) (by omega)
                  rw [HQ0.out] at this; exact this.symm
                go_wp2
                go_ret2
                exact ⟨rfl, 0, rfl⟩
            · obtain rfl : Q0 = q3 := by
                have := D0H.out.right hqr.out (by rw [HQ0.out]; exact hge) (by omega)
                rw [HQ0.out] at this; exact this
              go_wp2
              go_ret2
              exact ⟨rfl, 0, rfl⟩
end
end Go.Proofs.YtpemdcnneabbfaaGreatDoor
