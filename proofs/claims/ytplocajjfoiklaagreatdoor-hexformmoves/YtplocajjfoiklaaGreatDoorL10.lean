/-
  Texts that the proof leans on, joined: Ml, Sht.
-/
import Derived.Test.YtplocajjfoiklaaGreatDoorL8
import Derived.Test.YtplocajjfoiklaaGreatDoorL9
import Derived.Shelf.Strings.Trim
import Derived.Test.YtplocajjfoiklaaGreatDoorProg
set_option linter.unusedVariables false
set_option linter.unusedSectionVars false
set_option linter.unusedSimpArgs false
set_option maxRecDepth 20000
namespace Go.Proofs.YtplocajjfoiklaaGreatDoor
open Go.RowKit

theorem u8_all {p : UInt8 → Bool} (h : ∀ v, v < 256 → p (UInt8.ofNat v) = true) (y : UInt8) : p y = true := by
  have := h y.toNat y.toNat_lt
  rwa [UInt8.ofNat_toNat] at this
/-- a hexadecimal digit, great or small -/
def hxc (y : UInt8) : Bool := hxB (sm y)
def hxAll : List UInt8 := [48, 49, 50, 51, 52, 53, 54, 55, 56, 57, 97, 98, 99, 100, 101, 102, 65, 66, 67, 68, 69, 70]
theorem hxc_mem (y : UInt8) : hxAll.contains y = hxc y := by
  have := u8_all (p := fun y => hxAll.contains y == hxc y) (by decide +kernel) y
  simpa using this
theorem dg_sm (y : UInt8) : dg (sm y) = dg y := by
  have := u8_all (p := fun y => dg (sm y) == dg y) (by decide +kernel) y
  simpa using this
theorem sm_dg {y : UInt8} (h : dg y = true) : sm y = y := by
  have := u8_all (p := fun y => !dg y || sm y == y) (by decide +kernel) y
  simpa [h] using this
theorem sm_120 (y : UInt8) : sm y = 120 ↔ y = 120 ∨ y = 88 := by
  have := u8_all (p := fun y => decide (sm y = 120) == decide (y = 120 ∨ y = 88)) (by decide +kernel) y
  exact decide_eq_decide.1 (eq_of_beq this)
theorem sm_112 (y : UInt8) : sm y = 112 ↔ y = 112 ∨ y = 80 := by
  have := u8_all (p := fun y => decide (sm y = 112) == decide (y = 112 ∨ y = 80)) (by decide +kernel) y
  exact decide_eq_decide.1 (eq_of_beq this)
theorem sm_46 (y : UInt8) : sm y = 46 ↔ y = 46 := by
  have := u8_all (p := fun y => decide (sm y = 46) == decide (y = 46)) (by decide +kernel) y
  exact decide_eq_decide.1 (eq_of_beq this)
theorem sm_48 (y : UInt8) : sm y = 48 ↔ y = 48 := by
  have := u8_all (p := fun y => decide (sm y = 48) == decide (y = 48)) (by decide +kernel) y
  exact decide_eq_decide.1 (eq_of_beq this)
theorem sml_cons (y : UInt8) (z : List UInt8) : sml (y :: z) = sm y :: sml z := rfl
theorem sml_nil : sml [] = [] := rfl
theorem sml_app (a b : List UInt8) : sml (a ++ b) = sml a ++ sml b := by unfold sml; exact List.map_append
theorem gsgB_sml (l : List UInt8) : gsgB (sml l) = gsgB l := by
  cases l with
  | nil => rfl
  | cons c r =>
    show decide (((sm c).toNat : Int) = 45) = decide ((c.toNat : Int) = 45)
    rw [decide_eq_decide, sm_nat]
    split <;> omega
theorem sgR_sml (l : List UInt8) : sgR (sml l) = sml (sgR l) := by
  cases l with
  | nil => rfl
  | cons c r =>
    rw [sml_cons]
    have e := sm_nat c
    show (if ((sm c).toNat : Int) = 45 ∨ ((sm c).toNat : Int) = 43 then sml r else sm c :: sml r) = sml (if (c.toNat : Int) = 45 ∨ (c.toNat : Int) = 43 then r else c :: r)
    by_cases h : (c.toNat : Int) = 45 ∨ (c.toNat : Int) = 43
    · rw [if_pos h, if_pos (by rw [e, if_neg (by omega)]; exact h)]
    · rw [if_neg h, if_neg (by rw [e]; split <;> omega)]
      rfl
theorem sml_tw (l : List UInt8) : (sml l).takeWhile hxB = sml (l.takeWhile hxc) := by
  unfold sml
  rw [List.takeWhile_map]
  rfl
theorem sml_dw (l : List UInt8) : (sml l).dropWhile hxB = sml (l.dropWhile hxc) := by
  unfold sml
  rw [List.dropWhile_map]
  rfl
theorem isd_sml (l : List UInt8) : isd (sml l) = isd l := by
  unfold isd sml
  rw [List.all_map]
  have : (dg ∘ sm) = dg := funext dg_sm
  rw [this]
  cases l <;> rfl
theorem sml_dig {l : List UInt8} (h : l.all dg = true) : sml l = l := by
  induction l with
  | nil => rfl
  | cons c r ih =>
    rw [List.all_cons, Bool.and_eq_true] at h
    rw [sml_cons, ih h.2, sm_dg h.1]
theorem exS_sml {z : List UInt8} (h : isd (sgR z) = true) : exS (sml z) = exS z := by
  unfold exS
  rw [gsgB_sml, sgR_sml, sml_dig (isd_all h)]
/-- the exponent behind a p -/
def hpx : List UInt8 → Option Int
  | [] => none
  | y :: z => if (y = 112 ∨ y = 80) ∧ isd (sgR z) = true then some (clampE (exS z)) else none
theorem finB_0e (z : List UInt8) : finB (48 :: 101 :: z) = isd (sgR z) ∧ finE (48 :: 101 :: z) = (if isd (sgR z) then clampE (exS z) else 0) := by
  have e1 : dgs (48 :: 101 :: z) = [48] := rfl
  have e2 : rst (48 :: 101 :: z) = 101 :: z := rfl
  have e3 : Lib.hasPrefix (101 :: z) [46] = false := rfl
  have e4 : frac (48 :: 101 :: z) = [] := by unfold frac; rw [e2, e3]; rfl
  have e5 : behind (48 :: 101 :: z) = 101 :: z := by unfold behind; rw [e2, e3]; rfl
  have e6 : exB (101 :: z) = isd (sgR z) := by
    show (true && isd (sgR z)) = _
    rw [Bool.true_and]
  refine ⟨?_, ?_⟩
  · unfold finB
    rw [e1, e4, e5, e6]
    simp
  · unfold finE
    rw [e5, e4]
    show clampE ((if exB (101 :: z) = true then exS z else 0) - (([] : List UInt8).length : Int)) = _
    rw [e6]
    by_cases h : isd (sgR z) = true
    · rw [if_pos h, if_pos h]
      simp
    · rw [if_neg h, if_neg h]
      rfl
theorem bodP_0 (g : Bool) {y : UInt8} {z : List UInt8} (h : finB (48 :: y :: z) = false) : bodP g (48 :: y :: z) = none := by
  unfold bodP
  rw [h]
  have e1 : infB (sml (48 :: y :: z)) = false := rfl
  have e2 : nanB (sml (48 :: y :: z)) = false := rfl
  rw [e1, e2]
  rfl
theorem cut_0e {z : List UInt8} (h : z.length ≤ 3998) : cutP (48 :: 101 :: z) = if isd (sgR z) then some ⟨1, false, false, finD (48 :: 101 :: z), clampE (exS z)⟩ else none := by
  unfold cutP
  rw [if_neg (by simp only [List.length_cons]; omega)]
  have e1 : gsgB (48 :: 101 :: z) = false := rfl
  have e2 : sgR (48 :: 101 :: z) = 48 :: 101 :: z := rfl
  obtain ⟨f1, f2⟩ := finB_0e z
  rw [e1, e2]
  by_cases hi : isd (sgR z) = true
  · rw [if_pos hi]
    unfold bodP
    rw [f1, hi, if_pos rfl, f2, if_pos hi]
  · rw [if_neg hi]
    exact bodP_0 _ (by rw [f1]; simpa using hi)
/-- what opens with 0x is no decimal text -/
theorem cut_0x {l a : List UInt8} (ht : sgR (sml l) = 48 :: 120 :: a) : cutP l = none := by
  unfold cutP
  by_cases hl : 4000 < l.length
  · rw [if_pos hl]
  rw [if_neg hl]
  rw [sgR_sml] at ht
  cases hs : sgR l with
  | nil => rw [hs] at ht; cases ht
  | cons c r =>
    rw [hs, sml_cons] at ht
    cases r with
    | nil => simp [sml_nil] at ht
    | cons y z =>
      rw [sml_cons] at ht
      injection ht with h1 h2
      injection h2 with h2 h3
      rw [sm_48] at h1
      rw [sm_120] at h2
      subst h1
      refine bodP_0 _ ?_
      have d1 : dg y = false := by rcases h2 with h2 | h2 <;> rw [h2] <;> rfl
      have e1 : rst (48 :: y :: z) = y :: z := by
        unfold rst
        rw [List.dropWhile_cons_of_pos rfl, List.dropWhile_cons_of_neg (by rw [d1]; decide)]
      have e3 : Lib.hasPrefix (y :: z) [46] = false := by rcases h2 with h2 | h2 <;> rw [h2] <;> rfl
      have e5 : behind (48 :: y :: z) = y :: z := by unfold behind; rw [e1, e3]; rfl
      have e6 : exB (y :: z) = false := by
        rcases h2 with h2 | h2 <;> rw [h2] <;> rfl
      unfold finB
      rw [e5, e6]
      rfl
/-- behind the point: the digits, and what is left -/
def pxF (r : List UInt8) : List UInt8 := if Lib.hasPrefix r [46] then (Lib.trimPrefix r [46]).takeWhile hxc else []
def pxR (r : List UInt8) : List UInt8 := if Lib.hasPrefix r [46] then (Lib.trimPrefix r [46]).dropWhile hxc else r
theorem pre46 (y : UInt8) (z : List UInt8) : Lib.hasPrefix (y :: z) [46] = decide (y = 46) := by
  unfold Lib.hasPrefix
  by_cases h : y = 46
  · rw [h]; rfl
  · rw [decide_eq_false h]
    simp [List.isPrefixOf]
    exact fun e => h e.symm
theorem trim46 (z : List UInt8) : Lib.trimPrefix (46 :: z) [46] = z := by
  unfold Lib.trimPrefix
  rw [pre46, decide_eq_true rfl]
  rfl
end Go.Proofs.YtplocajjfoiklaaGreatDoor

namespace Go.Proofs
open Go.Shelf Go.RowKit
def Tryz.lays162_ren : Go.Shelf.Ren := ⟨fun | 162 => 121 | 232 => 162 | 227 => 163 | 234 => 164 | 236 => 165 | 228 => 201 | 271 => 202 | 151 => 203 | 120 => 232 | 197 => 209 | 152 => 233 | 260 => 236 | 137 => 244 | 119 => 245 | 224 => 246 | 225 => 247 | 217 => 249 | 266 => 251 | n => n, fun | 9 => 9 | 4 => 4 | 3 => 3 | 5 => 5 | 117 => 183 | 116 => 182 | 0 => 0 | 124 => 186 | 21 => 21 | 105 => 217 | 46 => 35 | 119 => 255 | 139 => 258 | 138 => 257 | n => n, fun | 3 => 8 | 4 => 9 | n => n⟩
theorem Tryz.lays162 : Go.Proofs.Lays.n162 Tryz.prog Tryz.lays162_ren := {
  mixed := by kernel_rfl
  f119 := Tryz.func245.trans (congrArg some (by kernel_rfl))
  f120 := Tryz.func232.trans (congrArg some (by kernel_rfl))
  f137 := Tryz.func244.trans (congrArg some (by kernel_rfl))
  f151 := Tryz.func203.trans (congrArg some (by kernel_rfl))
  f152 := Tryz.func233.trans (congrArg some (by kernel_rfl))
  f162 := Tryz.func121.trans (congrArg some (by kernel_rfl))
  f197 := Tryz.func209.trans (congrArg some (by kernel_rfl))
  f217 := Tryz.func249.trans (congrArg some (by kernel_rfl))
  f224 := Tryz.func246.trans (congrArg some (by kernel_rfl))
  f225 := Tryz.func247.trans (congrArg some (by kernel_rfl))
  f227 := Tryz.func163.trans (congrArg some (by kernel_rfl))
  f228 := Tryz.func201.trans (congrArg some (by kernel_rfl))
  f232 := Tryz.func162.trans (congrArg some (by kernel_rfl))
  f234 := Tryz.func164.trans (congrArg some (by kernel_rfl))
  f236 := Tryz.func165.trans (congrArg some (by kernel_rfl))
  f260 := Tryz.func236.trans (congrArg some (by kernel_rfl))
  f266 := Tryz.func251.trans (congrArg some (by kernel_rfl))
  f271 := Tryz.func202.trans (congrArg some (by kernel_rfl))
  t0 := Tryz.underlying0
  a0 := Tryz.isAgg0
  z0 := Tryz.sizeOf0
  v0 := Tryz.zeroValue0
  t3 := Tryz.underlying3
  a3 := Tryz.isAgg3
  z3 := Tryz.sizeOf3
  v3 := Tryz.zeroValue3
  t4 := Tryz.underlying4
  a4 := Tryz.isAgg4
  z4 := Tryz.sizeOf4
  v4 := Tryz.zeroValue4
  t5 := Tryz.underlying5
  a5 := Tryz.isAgg5
  z5 := Tryz.sizeOf5
  v5 := Tryz.zeroValue5
  t9 := Tryz.underlying9
  a9 := Tryz.isAgg9
  z9 := Tryz.sizeOf9
  v9 := Tryz.zeroValue9
  t21 := Tryz.underlying21
  a21 := Tryz.isAgg21
  z21 := Tryz.sizeOf21
  v21 := Tryz.zeroValue21
  t46 := Tryz.underlying35
  a46 := Tryz.isAgg35
  z46 := Tryz.sizeOf35
  v46 := Tryz.zeroValue35
  t105 := Tryz.underlying217
  a105 := Tryz.isAgg217
  z105 := Tryz.sizeOf217
  v105 := Tryz.zeroValue217
  t116 := Tryz.underlying182
  a116 := Tryz.isAgg182
  z116 := Tryz.sizeOf182
  t117 := Tryz.underlying183
  a117 := Tryz.isAgg183
  z117 := Tryz.sizeOf183
  v117 := Tryz.zeroValue183
  t119 := Tryz.underlying255
  a119 := Tryz.isAgg255
  z119 := Tryz.sizeOf255
  t124 := Tryz.underlying186
  a124 := Tryz.isAgg186
  z124 := Tryz.sizeOf186
  v124 := Tryz.zeroValue186
  t138 := Tryz.underlying257
  a138 := Tryz.isAgg257
  z138 := Tryz.sizeOf257
  v138 := Tryz.zeroValue257
  t139 := Tryz.underlying258
  a139 := Tryz.isAgg258
  z139 := Tryz.sizeOf258
  v139 := Tryz.zeroValue258
  g3 := by kernel_rfl
  g4 := by kernel_rfl }
theorem Tryz.strings_TrimRight_one (s : ByteArray) (c : UInt8) (hc : c.toNat < 128) (w : World) (hs : s.size ≤ 9223372036854775807) :
    Calls Tryz.prog 121 #[.string s, .string ⟨#[c]⟩] w fun e w' => e = .returned (.string ⟨(Lib.trimRightB s.data.toList c).toArray⟩) ∧ w' = w := Any.strings_TrimRight_one Tryz.lays162 s c hc w hs
end Go.Proofs
