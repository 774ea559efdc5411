/-
  Texts as lists of bytes.
-/
import Derived.Test.YtgjdhfmpemionaaDoorProg
import Derived.WalkKit
import Derived.RowKit
set_option linter.unusedVariables false
set_option linter.unusedSimpArgs false
namespace Go.Proofs.YtgjdhfmpemionaaDoor
open Go.RowKit

/-- a text of these bytes -/
def B (l : List UInt8) : ByteArray := ⟨l.toArray⟩
theorem B_of (s : ByteArray) : B s.data.toList = s := by cases s; rfl
theorem B_data (l : List UInt8) : (B l).data.toList = l := rfl
theorem B_inj {a b : List UInt8} (h : B a = B b) : a = b := by
  have := congrArg (fun s => s.data.toList) h
  exact this
theorem B_size (l : List UInt8) : (B l).size = l.length := rfl
theorem B_get {l : List UInt8} {i : Nat} (h : i < (B l).size) : (B l)[i]'h = l[i]'(by rwa [B_size] at h) := by
  show (B l).data[i]'_ = _
  simp [B]
theorem B_ext (l : List UInt8) (a b : Nat) : (B l).extract a b = B ((l.take b).drop a) := by
  apply ByteArray.ext
  rw [ByteArray.data_extract]
  show l.toArray.extract a b = ((l.take b).drop a).toArray
  rw [List.extract_toArray, List.extract_eq_take_drop, List.drop_take]
theorem B_app (a b : List UInt8) : B a ++ B b = B (a ++ b) := by
  apply ByteArray.ext
  rw [ByteArray.data_append]
  show a.toArray ++ b.toArray = (a ++ b).toArray
  simp
/-- byte i -/
def by_ (l : List UInt8) (i : Nat) : Int := if h : i < l.length then ((l[i]'h).toNat : Int) else 0
theorem by_lt {l : List UInt8} {i : Nat} (h : i < (B l).size) : (((B l)[i]'h).toNat : Int) = by_ l i := by
  rw [B_get h]; unfold by_; rw [dif_pos (by rwa [B_size] at h)]
theorem by_bd (l : List UInt8) (i : Nat) : 0 ≤ by_ l i ∧ by_ l i ≤ 255 := by
  unfold by_; split
  · rename_i h; have := (l[i]'h).toNat_lt; omega
  · omega
theorem by_succ (c : UInt8) (r : List UInt8) (i : Nat) : by_ (c :: r) (i + 1) = by_ r i := by
  unfold by_
  by_cases h : i < r.length
  · rw [dif_pos h, dif_pos (by simpa using h)]; rfl
  · rw [dif_neg h, dif_neg (by simpa using h)]
theorem by_zero (c : UInt8) (r : List UInt8) : by_ (c :: r) 0 = (c.toNat : Int) := by simp [by_]
/-- a digit -/
def dg (c : UInt8) : Bool := decide (48 ≤ c.toNat ∧ c.toNat ≤ 57)
/-- the digits ahead -/
def dgs (l : List UInt8) : List UInt8 := l.takeWhile dg
def rst (l : List UInt8) : List UInt8 := l.dropWhile dg
theorem dgs_rst (l : List UInt8) : dgs l ++ rst l = l := List.takeWhile_append_dropWhile
theorem dgs_le (l : List UInt8) : (dgs l).length ≤ l.length := by
  have := congrArg List.length (dgs_rst l)
  rw [List.length_append] at this; omega
theorem take_dgs (l : List UInt8) : l.take (dgs l).length = dgs l := by
  conv => lhs; arg 2; rw [← dgs_rst l]
  simp
theorem drop_dgs (l : List UInt8) : l.drop (dgs l).length = rst l := by
  conv => lhs; arg 2; rw [← dgs_rst l]
  simp
theorem dgs_at : ∀ (l : List UInt8) (i : Nat), i < (dgs l).length → 48 ≤ by_ l i ∧ by_ l i ≤ 57
  | [], i, h => by simp [dgs] at h
  | c :: r, i, h => by
    unfold dgs at h
    rw [List.takeWhile_cons] at h
    split at h
    · rename_i hc
      unfold dg at hc
      simp at hc
      cases i with
      | zero => simp [by_]; omega
      | succ i =>
        have := dgs_at r i (by simpa [dgs] using h)
        rw [by_succ]
        exact this
    · simp at h
theorem dgs_stop : ∀ (l : List UInt8), (dgs l).length < l.length → ¬ (48 ≤ by_ l (dgs l).length ∧ by_ l (dgs l).length ≤ 57)
  | [], h => by simp [dgs] at h
  | c :: r, h => by
    unfold dgs at h ⊢
    rw [List.takeWhile_cons] at h ⊢
    split at h
    · rename_i hc
      rw [if_pos hc]
      have := dgs_stop r (by simpa [dgs] using h)
      rw [List.length_cons, by_succ]
      exact this
    · rename_i hc
      rw [if_neg hc]
      unfold dg at hc
      simp at hc
      simp [by_]
      intro h1
      omega
end Go.Proofs.YtgjdhfmpemionaaDoor
