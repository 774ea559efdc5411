/-
  Sums of the four flags, as four bits: what '&', '|', '&^' and '^' make of them.
-/
import Derived.Laws.BitsLemmas
import Derived.Laws.BitsAllLaws
set_option linter.unusedVariables false
set_option linter.unusedSimpArgs false
namespace Go.Proofs.Ytjfdmhhglgdfkaa

/-- a sum of flags, as a number -/
def F (x : BitVec 4) : Int := x.toNat
/-- the four flags of any number -/
def L (n : Int) : BitVec 4 := (BitVec.ofInt 64 n).setWidth 4

theorem F_range (x : BitVec 4) : 0 ≤ F x ∧ F x ≤ 15 := by have := x.isLt; unfold F; omega
theorem F_inj {x y : BitVec 4} (h : F x = F y) : x = y := BitVec.eq_of_toNat_eq (by unfold F at h; omega)
theorem F_zero : F 0#4 = 0 := rfl
theorem ofInt_F64 (x : BitVec 4) : BitVec.ofInt 64 (F x) = x.setWidth 64 := by
  have := x.isLt
  apply BitVec.eq_of_toNat_eq; unfold F; rw [BitVec.ofInt_natCast, BitVec.toNat_ofNat, BitVec.toNat_setWidth]
theorem ofInt_F32 (x : BitVec 4) : BitVec.ofInt 32 (F x) = x.setWidth 32 := by
  have := x.isLt
  apply BitVec.eq_of_toNat_eq; unfold F; rw [BitVec.ofInt_natCast, BitVec.toNat_ofNat, BitVec.toNat_setWidth]
theorem L_F (x : BitVec 4) : L (F x) = x := by unfold L; rw [ofInt_F64]; ext i; simp
theorem back64 (z : BitVec 4) : IntKind.i64.wrap ((z.setWidth 64).toNat : Int) = F z := by
  have := z.isLt
  rw [IntKind.wrap_i64, BitVec.toNat_setWidth]; unfold F; omega
theorem back32 (z : BitVec 4) : IntKind.u32.wrap ((z.setWidth 32).toNat : Int) = F z := by
  have := z.isLt
  rw [IntKind.wrap_u32, BitVec.toNat_setWidth]; unfold F; omega
theorem and15 (n : Int) : bits .and .i64 n 15 = F (L n) := by
  have h15 : (BitVec.ofInt 64 15).toNat = 2 ^ 4 - 1 := by decide
  have key : (BitVec.ofInt 64 n &&& BitVec.ofInt 64 15).toNat = (BitVec.ofInt 64 n).toNat % 2 ^ 4 := by
    rw [BitVec.toNat_and, h15, Nat.and_two_pow_sub_one_eq_mod]
  show IntKind.i64.wrap ((BitVec.ofInt 64 n &&& BitVec.ofInt 64 15).toNat : Nat) = _
  rw [key, IntKind.wrap_i64]
  unfold F L; rw [BitVec.toNat_setWidth]
  omega
theorem or64 (a b : BitVec 4) : bits .or .i64 (F a) (F b) = F (a ||| b) := by
  show IntKind.i64.wrap ((BitVec.ofInt 64 (F a) ||| BitVec.ofInt 64 (F b)).toNat : Nat) = _
  rw [ofInt_F64, ofInt_F64, ← BitVec.setWidth_or, back64]
theorem and64 (a : BitVec 4) (n : Int) : bits .and .i64 (F a) n = F (a &&& L n) := by
  show IntKind.i64.wrap ((BitVec.ofInt 64 (F a) &&& BitVec.ofInt 64 n).toNat : Nat) = _
  rw [ofInt_F64, ← back64]
  congr 3
  apply BitVec.eq_of_getLsbD_eq; intro i hi
  simp [L, BitVec.getLsbD_setWidth]
  cases h1 : a.getLsbD i
  · simp
  · have := BitVec.lt_of_getLsbD h1; simp [this, hi]
theorem andNot64 (a : BitVec 4) (n : Int) : bits .andNot .i64 (F a) n = F (a &&& ~~~ L n) := by
  show IntKind.i64.wrap ((BitVec.ofInt 64 (F a) &&& ~~~ BitVec.ofInt 64 n).toNat : Nat) = _
  rw [ofInt_F64, ← back64]
  congr 3
  apply BitVec.eq_of_getLsbD_eq; intro i hi
  simp [L, BitVec.getLsbD_setWidth]
  cases h1 : a.getLsbD i
  · simp
  · have := BitVec.lt_of_getLsbD h1; simp [this]
theorem L_andNot (n m : Int) : L (bits .andNot .i64 n m) = L n &&& ~~~ L m := by
  show L (IntKind.i64.wrap ((BitVec.ofInt 64 n &&& ~~~ BitVec.ofInt 64 m).toNat : Nat)) = _
  have : BitVec.ofInt 64 (IntKind.i64.wrap ((BitVec.ofInt 64 n &&& ~~~ BitVec.ofInt 64 m).toNat : Nat)) = BitVec.ofInt 64 n &&& ~~~ BitVec.ofInt 64 m := by
    generalize BitVec.ofInt 64 n &&& ~~~ BitVec.ofInt 64 m = z
    have := z.isLt
    apply BitVec.eq_of_toNat_eq
    rw [BitVec.toNat_ofInt, IntKind.wrap_i64]; omega
  unfold L; rw [this]
  ext i; simp
theorem or32 (a b : BitVec 4) : bits .or .u32 (F a) (F b) = F (a ||| b) := by
  show IntKind.u32.wrap ((BitVec.ofInt 32 (F a) ||| BitVec.ofInt 32 (F b)).toNat : Nat) = _
  rw [ofInt_F32, ofInt_F32, ← BitVec.setWidth_or, back32]
theorem and32 (a b : BitVec 4) : bits .and .u32 (F a) (F b) = F (a &&& b) := by
  show IntKind.u32.wrap ((BitVec.ofInt 32 (F a) &&& BitVec.ofInt 32 (F b)).toNat : Nat) = _
  rw [ofInt_F32, ofInt_F32, ← BitVec.setWidth_and, back32]
theorem notAnd32 (a b : BitVec 4) : bits .and .u32 (F a) (4294967295 - F b) = F (a &&& ~~~ b) := by
  have e : BitVec.ofInt 32 (4294967295 - F b) = ~~~ (b.setWidth 32) := by
    have := b.isLt
    apply BitVec.eq_of_toNat_eq
    rw [BitVec.toNat_ofInt, BitVec.toNat_not, BitVec.toNat_setWidth]; unfold F; omega
  show IntKind.u32.wrap ((BitVec.ofInt 32 (F a) &&& BitVec.ofInt 32 (4294967295 - F b)).toNat : Nat) = _
  rw [ofInt_F32, e, ← back32]
  congr 3
  apply BitVec.eq_of_getLsbD_eq; intro i hi
  simp [BitVec.getLsbD_setWidth]
  cases h1 : a.getLsbD i
  · simp
  · have := BitVec.lt_of_getLsbD h1; simp [this, hi]
theorem not32 (b : BitVec 4) : bits .xor .u32 IntKind.u32.max (F b) = 4294967295 - F b := by
  have hm : BitVec.ofInt 32 IntKind.u32.max = BitVec.allOnes 32 := by decide
  show IntKind.u32.wrap ((BitVec.ofInt 32 IntKind.u32.max ^^^ BitVec.ofInt 32 (F b)).toNat : Nat) = _
  rw [hm, ofInt_F32, BitVec.allOnes_xor, BitVec.toNat_not, BitVec.toNat_setWidth, IntKind.wrap_u32]
  have := b.isLt
  unfold F; omega
theorem notAnd32' (a b : BitVec 4) : bits .and .u32 (F a) (bits .xor .u32 IntKind.u32.max (F b)) = F (a &&& ~~~ b) := by rw [not32, notAnd32]
end Go.Proofs.Ytjfdmhhglgdfkaa
