/-
  Texts that the proof leans on.
-/
import Derived.Test.YtpemdcnneabbfaaGreatDoorJ9
set_option linter.unusedVariables false
set_option linter.unusedSimpArgs false
set_option linter.unusedSectionVars false
set_option maxRecDepth 20000
namespace Go.Proofs.YtpemdcnneabbfaaGreatDoor
open Go.RowKit
theorem wrapNat (a : Nat) : IntKind.u64.wrap (a : Int) = ((a % 18446744073709551616 : Nat) : Int) := by
  simp only [IntKind.wrap, IntKind.bits, IntKind.signed]
  simp
theorem andLow (a : Nat) (h : a < 18446744073709551616) : bits BinOp.and IntKind.u64 (a : Int) 4294967295 = ((a % 4294967296 : Nat) : Int) := by
  have h1 := u64_and_nat a 4294967295 h (by decide)
  rw [show ((4294967295 : Nat) : Int) = 4294967295 from rfl] at h1
  rw [h1]
  have := Nat.and_two_pow_sub_one_eq_mod a 32
  rw [show (2 : Nat) ^ 32 - 1 = 4294967295 by decide, show (2 : Nat) ^ 32 = 4294967296 by decide] at this
  rw [this]
theorem powCast (s : Nat) : ((2 ^ s : Nat) : Int) = (2 : Int) ^ s := by simp

theorem div64_pos (h l y : Nat) (w : World) (hh : 0 < h) (hl : l < 18446744073709551616) (hy : h < y) (hy64 : y < 18446744073709551616) :
    Calls Tryz.prog 38 #[.int .u64 h, .int .u64 l, .int .u64 y] w fun e w' => e = .returned (.tuple #[.int .u64 (((h * 18446744073709551616 + l) / y : Nat) : Int), .int .u64 (((h * 18446744073709551616 + l) % y : Nat) : Int)]) ∧ ∃ m, w' = w.drewN m := by
  obtain ⟨n1, n2, n3⟩ := norm_bd y (by omega) hy64
  have hbl := bitLen_spec y (by omega) hy64
  obtain ⟨S, hS⟩ : ∃ S, 64 - Lib.bitLen y = S := ⟨_, rfl⟩
  rw [hS] at n1 n2 n3
  obtain ⟨j1, j2, j3⟩ := norm_join h l y S n3 hy hl n2
  have hlz : Calls Tryz.prog 77 #[.int .u64 y] w fun e w' => e = .returned (.int .i64 (S : Int)) ∧ w = w' := by
    refine (Tryz.bits_LeadingZeros64 (y : Int) w (by omega) (by omega)).mono fun e w' hw => ⟨?_, hw.2.symm⟩
    rw [hw.1, Int.toNat_natCast]
    have e0 : (64 : Int) - (Lib.bitLen y : Int) = (S : Int) := by omega
    rw [e0]
  obtain ⟨Y, hYn⟩ : ∃ Y, y * 2 ^ S = Y := ⟨_, rfl⟩
  obtain ⟨u, hun⟩ : ∃ u, h * 2 ^ S + l / 2 ^ (64 - S) = u := ⟨_, rfl⟩
  obtain ⟨v, hvn⟩ : ∃ v, l * 2 ^ S % 18446744073709551616 = v := ⟨_, rfl⟩
  have hv64 : v < 18446744073709551616 := by rw [← hvn]; exact Nat.mod_lt _ (by decide)
  have hhS : h * 2 ^ S < 18446744073709551616 := by
    have : h * 2 ^ S ≤ y * 2 ^ S := Nat.mul_le_mul_right _ (by omega)
    omega
  have hls : l / 2 ^ (64 - S) < 18446744073709551616 := Nat.lt_of_le_of_lt (Nat.div_le_self _ _) hl
  rw [hYn] at n1 n2 j3
  rw [hun] at j1 j2 j3
  rw [hvn] at j2
  -- the digits
  obtain ⟨d1, hd1⟩ : ∃ d1, Y / 4294967296 = d1 := ⟨_, rfl⟩
  obtain ⟨d0, hd0⟩ : ∃ d0, Y % 4294967296 = d0 := ⟨_, rfl⟩
  obtain ⟨e1, he1⟩ : ∃ e1, v / 4294967296 = e1 := ⟨_, rfl⟩
  obtain ⟨e0, he0⟩ : ∃ e0, v % 4294967296 = e0 := ⟨_, rfl⟩
  have hYd : Y = d1 * 4294967296 + d0 := by omega
  have hve : v = e1 * 4294967296 + e0 := by omega
  have hYpos : 0 < Y := by omega
  obtain ⟨Q1, hQ1⟩ : ∃ Q1, (u * 4294967296 + e1) / Y = Q1 := ⟨_, rfl⟩
  obtain ⟨R1, hR1⟩ : ∃ R1, (u * 4294967296 + e1) % Y = R1 := ⟨_, rfl⟩
  have hR1l : R1 < Y := by rw [← hR1]; exact Nat.mod_lt _ hYpos
  obtain ⟨Q0, hQ0⟩ : ∃ Q0, (R1 * 4294967296 + e0) / Y = Q0 := ⟨_, rfl⟩
  obtain ⟨R0, hR0⟩ : ∃ R0, (R1 * 4294967296 + e0) % Y = R0 := ⟨_, rfl⟩
  have hR0l : R0 < Y := by rw [← hR0]; exact Nat.mod_lt _ hYpos
  have m1 : Q1 * Y + R1 = u * 4294967296 + e1 := by
    have := Nat.div_add_mod (u * 4294967296 + e1) Y
    rw [hQ1, hR1, Nat.mul_comm] at this; exact this
  have m0 : Q0 * Y + R0 = R1 * 4294967296 + e0 := by
    have := Nat.div_add_mod (R1 * 4294967296 + e0) Y
    rw [hQ0, hR0, Nat.mul_comm] at this; exact this
  have cY : (d1 : Int) * 4294967296 + d0 = (Y : Int) := by omega
  have iQ1 : ((u : Int) * 4294967296 + e1) / (d1 * 4294967296 + d0) = Q1 := by
    rw [cY, show (u : Int) * 4294967296 + e1 = ((u * 4294967296 + e1 : Nat) : Int) by omega, ← Int.natCast_ediv, hQ1]
  have iQ0 : ((R1 : Int) * 4294967296 + e0) / (d1 * 4294967296 + d0) = Q0 := by
    rw [cY, show (R1 : Int) * 4294967296 + e0 = ((R1 * 4294967296 + e0 : Nat) : Int) by omega, ← Int.natCast_ediv, hQ0]
  have p1 : ((Q1 * Y : Nat) : Int) = (Q1 : Int) * Y := Int.natCast_mul ..
  have p0 : ((Q0 * Y : Nat) : Int) = (Q0 : Int) * Y := Int.natCast_mul ..
  have iR1 : (u : Int) * 4294967296 + e1 - Q1 * Y = R1 := by rw [← p1]; omega
  have iR0 : (R1 : Int) * 4294967296 + e0 - Q0 * Y = R0 := by rw [← p0]; omega
  have D1 : Dg (u : Int) d1 d0 e1 := ⟨by omega, by omega, by omega, by omega, by omega, by omega, by omega, by omega⟩
  have D0 : Dg (R1 : Int) d1 d0 e0 := ⟨by omega, by omega, by omega, by omega, by omega, by omega, by omega, by omega⟩
  have wY : IntKind.u64.wrap ((y : Int) * 2 ^ S) = (Y : Int) := by
    rw [← powCast, ← Int.natCast_mul, wrapNat, hYn, Nat.mod_eq_of_lt n2]
  have wv : IntKind.u64.wrap ((l : Int) * 2 ^ S) = (v : Int) := by
    rw [← powCast, ← Int.natCast_mul, wrapNat, hvn]
  have wu : bits BinOp.or IntKind.u64 (IntKind.u64.wrap ((h : Int) * 2 ^ S)) ((l : Int) / 2 ^ (64 - S)) = (u : Int) := by
    rw [← powCast, ← powCast, ← Int.natCast_mul, wrapNat, ← Int.natCast_ediv, Nat.mod_eq_of_lt hhS, u64_or_nat _ _ hhS hls, j1]
  have fin := norm_back (h * 18446744073709551616 + l) y S (Q1 * 4294967296 + Q0) R0 (by
    rw [← j2, hYn, Nat.add_mul, Nat.mul_right_comm]
    omega) (by rw [hYn]; exact hR0l)
  have core := div64_core (h : Int) l y Y d1 d0 u v e1 e0 Q1 R1 Q0 R0 S w (by omega) ⟨by omega, by omega⟩ ⟨by omega, by omega⟩ n3 hlz wY (by omega) (by rw [andLow Y n2, hd0]) wu wv (by omega) (by rw [andLow v hv64, he0]) D1 D0 cY.symm (by omega) iQ1 iR1 iQ0 iR0 ⟨by omega, by omega⟩
  refine core.mono fun e w' hw => ⟨?_, hw.2⟩
  rw [hw.1]
  have c1 : (Q1 : Int) * 4294967296 + Q0 = (((h * 18446744073709551616 + l) / y : Nat) : Int) := by rw [← fin.1]; omega
  have c2 : (R0 : Int) / 2 ^ S = (((h * 18446744073709551616 + l) % y : Nat) : Int) := by rw [← fin.2, ← powCast, ← Int.natCast_ediv]
  rw [c1, c2]

theorem div64_all (hi lo y : Int) (w : World) (h0 : 0 ≤ hi) (hy : hi < y) (hy64 : y ≤ 18446744073709551615) (hl : 0 ≤ lo ∧ lo ≤ 18446744073709551615) :
    Calls Tryz.prog 38 #[.int .u64 hi, .int .u64 lo, .int .u64 y] w fun e w' => e = .returned (.tuple #[.int .u64 ((hi * 18446744073709551616 + lo) / y), .int .u64 ((hi * 18446744073709551616 + lo) % y)]) ∧ ∃ m, w' = w.drewN m := by
  by_cases e : hi = 0
  · subst e
    have := div64_0 lo y w hl ⟨by omega, hy64⟩
    simpa using this
  · obtain ⟨h, rfl⟩ := Int.eq_ofNat_of_zero_le h0
    obtain ⟨l, rfl⟩ := Int.eq_ofNat_of_zero_le hl.1
    obtain ⟨z, rfl⟩ := Int.eq_ofNat_of_zero_le (show 0 ≤ y by omega)
    refine (div64_pos h l z w (by omega) (by omega) (by omega) (by omega)).mono fun e w' hw => ⟨?_, hw.2⟩
    rw [hw.1, Int.natCast_ediv, Int.natCast_emod, Int.natCast_add, Int.natCast_mul]
    rfl
end Go.Proofs.YtpemdcnneabbfaaGreatDoor
