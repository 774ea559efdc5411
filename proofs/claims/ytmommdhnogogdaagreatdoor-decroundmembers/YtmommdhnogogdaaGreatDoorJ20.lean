/-
  Texts that the proof leans on, joined: Rat, Gm, Ga, Gb, Gd, Ge, Gf, Gh.
-/
import Derived.Test.YtmommdhnogogdaaGreatDoorJ1
import Derived.Test.YtmommdhnogogdaaGreatDoorJ5
import Derived.Test.YtmommdhnogogdaaGreatDoorJ3
import Derived.Test.YtmommdhnogogdaaGreatDoorProg
import Derived.WalkKit
import Derived.RowKit
import Derived.Deep.QuietTactic
import Derived.BigQuiet
import Derived.Lib.Strings
import Derived.Laws.IdiomStrings
set_option linter.unusedVariables false
set_option linter.unusedSimpArgs false
set_option maxRecDepth 20000
set_option linter.unusedSectionVars false
namespace Go.Proofs.YtmommdhnogogdaaGreatDoor
open Go.RowKit

set_option maxHeartbeats 1000000 in
theorem radd_tr (a a' : Option Addr) (n c n' c' : Nat) (x y : Nat → Int) (w : World) (hn : n < 4294967290) (hn' : n' < 4294967290) (h : Num w a n c x) (h' : Num w a' n' c' y) :
    Calls Tryz.prog 55 #[.slice a n c, .slice a' n' c'] w fun e w' => ∃ g k cap, e = .returned (.slice (some ⟨g, 0, none⟩) k cap) ∧ k ≤ max n n' + 1 ∧ Num w' (some ⟨g, 0, none⟩) k cap (sumW x y) ∧ Below w.heap.size w w' ∧ sizeL (sumW x y) k = k := by
  have hx := h.2.2.1
  have hy := h'.2.2.1
  have zx := h.2.2.2.1
  have zy := h'.2.2.2.1
  obtain ⟨M, hM⟩ : ∃ M, max n n' + 1 = M := ⟨_, rfl⟩
  have hMi : max (n : Int) n' + 1 = (M : Int) := by omega
  have hMb : M < 4294967292 := by omega
  have hmk := fun w => make_any (max (n : Int) n' + 1) M hMi (by omega) w
  have hfin : ∀ (ss : Array Value), ss.size = M → (∀ j h, ss[j]'h = Value.int .u64 (sumW x y j)) → Num (w.alloc (.cells ss 22)) (some ⟨w.heap.size, 0, none⟩) M M (sumW x y) := fun ss h1 h2 => num_of_block (by omega) (sumW_words x y) (fun i hi => sumW_zero (n := max n n') hx hy (fun i hi => zx i (by omega)) (fun i hi => zy i (by omega)) i (by omega)) h1 (fun j hj => by rw [h2 j hj])
  have hw1 := fun (i : Nat) (ss : Array Value) => word_any a n c i x (w.alloc (.cells ss 22)) (h.next (below1 w _))
  have hw2 := fun (i : Nat) (ss : Array Value) => word_any a' n' c' i y (w.alloc (.cells ss 22)) (h'.next (below1 w _))
  have HM : Hid (max n n' + 1 = M) := hM
  have HZ : Hid ((arrOf (fun _ => 0) M).size = M ∧ ∀ j h, (arrOf (fun _ => 0) M)[j]'h = Value.int .u64 0) := ⟨arrOf_size _ _, fun j h => arrOf_get _ _ _ _⟩
  clear h h' zx zy hM hMi
  generalize arrOf (fun _ => 0) M = zz at *
  go_enter Tryz.func55, Tryz.ntmps55
  go_wp2
  go_loopw [6, 7, 17, 20] (fun c u7 i u20 wr => ∃ (k : Nat) (ss : Array Value), k ≤ M ∧ i = .int .i64 k ∧ c = .int .u64 (carryW x y k) ∧ ss.size = M ∧ (∀ j h, ss[j]'h = Value.int .u64 (if j < k then sumW x y j else 0)) ∧ wr = w.alloc (.cells ss 22)) (fun _ _ i _ _ => M - (intOf i).toNat)
  case atStart => exact ⟨0, zz, Nat.zero_le _, rfl, rfl, HZ.out.1, fun j h => by rw [HZ.out.2 j h]; simp, rfl⟩
  case round =>
    obtain ⟨k, ss, hk, rfl, rfl, hsz, hss, rfl⟩ := hrel
    have hcar := carryW_01 hx hy k
    by_cases h8 : k < M
    · have h8i : (k : Int) < M := by omega
      have h8s : k < ss.size := by omega
      have bx := hx k
      have b_y := hy k
      have hsk : ss[k]? = some (.int .u64 0) := by rw [Array.getElem?_eq_getElem h8s, hss k h8s, if_neg (by omega)]
      have hadd := fun w => add64 (x k) (y k) (carryW x y k) bx.1 b_y.1 hcar.1 hcar.2 w
      have hwa := hw1 k ss
      have hwb := hw2 k ss
      have HR : Hid (∀ (i : Nat) (h : i < (ss.setIfInBounds k (.int .u64 (sumW x y k))).size), (ss.setIfInBounds k (.int .u64 (sumW x y k)))[i]'h = Value.int .u64 (if i < k + 1 then sumW x y i else 0)) := set_next hss
      clear hss hw1 hw2 hfin hmk hx hy
      go_wp2_with (first | (go_at_call_of 47 (Value.slice a n c); refine hwa.mono ?_; rintro e w' ⟨rfl, rfl⟩) | (go_at_call_of 47 (Value.slice a' n' c'); refine hwb.mono ?_; rintro e w' ⟨rfl, rfl⟩))
      go_roundw
      case rel => exact ⟨k + 1, ss.setIfInBounds k (.int .u64 (sumW x y k)), by omega, by go_num, rfl, by simp [hsz], HR.out, rfl⟩
      case measure => simp [intOf]; omega
    · obtain rfl : k = M := by omega
      have hss' : ∀ j h, ss[j]'h = Value.int .u64 (sumW x y j) := by
        intro j h; rw [hss j h, if_pos (by omega)]
      have hT := trim_any _ _ _ _ _ (by omega) (hfin ss hsz hss')
      have hle := sizeL_le (sumW x y) k
      clear hss hss' hw1 hw2 hfin hmk hx hy
      go_wp2_with (go_at_call 36; refine hT.mono ?_; rintro e w1 ⟨g, cap, rfl, hN, hB⟩)
      go_ret
      exact ⟨g, _, cap, rfl, Nat.le_trans hle (Nat.le_of_eq HM.out.symm), hN, (below1 w _).trans (hB.mono (by simp)), sizeL_sizeL _ _⟩

theorem radd_vt (a a' : Option Addr) (n c n' c' : Nat) (x y : Nat → Int) (w : World) (hn : n < 4000000000) (hn' : n' < 4000000000) (h : Num w a n c x) (h' : Num w a' n' c' y) :
    Calls Tryz.prog 55 #[.slice a n c, .slice a' n' c'] w fun e w' => ∃ g k cap z, e = .returned (.slice (some ⟨g, 0, none⟩) k cap) ∧ k ≤ max n n' + 1 ∧ Num w' (some ⟨g, 0, none⟩) k cap z ∧ val z k = val x n + val y n' ∧ Below w.heap.size w w' ∧ sizeL z k = k := by
  refine (radd_tr a a' n c n' c' x y w (by omega) (by omega) h h').mono fun e w' ⟨g, k, cap, e1, hk, hN, hB, ht⟩ => ⟨g, k, cap, _, e1, hk, hN, ?_, hB, ht⟩
  have e := sum_val (x := x) (y := y) (max n n' + 1)
  rw [sum_end h.2.2.1 h'.2.2.1 h.2.2.2.1 h'.2.2.2.1 (by omega) (by omega), val_more h.2.2.2.1 _ (by omega), val_more h'.2.2.2.1 _ (by omega), val_more hN.2.2.2.1 _ hk] at e
  omega
end Go.Proofs.YtmommdhnogogdaaGreatDoor

namespace Go.Proofs.YtmommdhnogogdaaGreatDoor
open Go.RowKit

/-- a text of these bytes -/
def B (l : List UInt8) : ByteArray := ⟨l.toArray⟩
theorem B_of (s : ByteArray) : B s.data.toList = s := by cases s; rfl
theorem B_size (l : List UInt8) : (B l).size = l.length := rfl
theorem B_get {l : List UInt8} {i : Nat} (h : i < (B l).size) : (B l)[i]'h = l[i]'(by rwa [B_size] at h) := by
  show (B l).data[i]'_ = _
  simp [B]
/-- byte i -/
def by_ (l : List UInt8) (i : Nat) : Int := if h : i < l.length then ((l[i]'h).toNat : Int) else 0
theorem by_succ (c : UInt8) (r : List UInt8) (i : Nat) : by_ (c :: r) (i + 1) = by_ r i := by
  unfold by_
  by_cases h : i < r.length
  · rw [dif_pos h, dif_pos (by simpa using h)]; rfl
  · rw [dif_neg h, dif_neg (by simpa using h)]
theorem by_zero (c : UInt8) (r : List UInt8) : by_ (c :: r) 0 = (c.toNat : Int) := by simp [by_]
/-- a digit -/
def dg (c : UInt8) : Bool := decide (48 ≤ c.toNat ∧ c.toNat ≤ 57)
def rst (l : List UInt8) : List UInt8 := l.dropWhile dg
end Go.Proofs.YtmommdhnogogdaaGreatDoor

namespace Go.Proofs.YtmommdhnogogdaaGreatDoor
open Go.RowKit

/-- are all digits? -/
def isd (l : List UInt8) : Bool := l.all dg && !l.isEmpty
theorem all_dg (l : List UInt8) : l.all dg = true ↔ ∀ i, i < l.length → 48 ≤ by_ l i ∧ by_ l i ≤ 57 := by
  rw [List.all_eq_true]
  constructor
  · intro h i hi
    have := h _ (List.getElem_mem hi)
    unfold dg at this; simp at this
    unfold by_; rw [dif_pos hi]; omega
  · intro h c hc
    obtain ⟨i, hi, rfl⟩ := List.getElem_of_mem hc
    have := h i hi
    unfold by_ at this; rw [dif_pos hi] at this
    unfold dg; simp; omega
end Go.Proofs.YtmommdhnogogdaaGreatDoor

namespace Go.Proofs.YtmommdhnogogdaaGreatDoor
open Go.RowKit

/-- the number of digits -/
def nv (l : List UInt8) : Int := l.foldl (fun v c => 10 * v + ((c.toNat : Int) - 48)) 0
/-- the number of digits, or two thousand millions -/
def vc (l : List UInt8) : Int := min (nv l) 2000000000
end Go.Proofs.YtmommdhnogogdaaGreatDoor

namespace Go.Proofs.YtmommdhnogogdaaGreatDoor
open Go.RowKit

theorem isd_all {l : List UInt8} (h : isd l = true) : l.all dg = true := by
  unfold isd at h; simp only [Bool.and_eq_true] at h; exact h.1
end Go.Proofs.YtmommdhnogogdaaGreatDoor

namespace Go.Proofs.YtmommdhnogogdaaGreatDoor
open Go.RowKit

/-- block g holds n bytes, which may be written -/
structure By (g n : Nat) (x : Nat → Int) (W : World) : Prop where
  lt : g < W.heap.size
  cell : ∀ j, j < n → W.cell? ⟨g, j, none⟩ = some (.int .u8 (x j))
  frz : ∀ j, j < n → W.frozen? ⟨g, j, none⟩ = false
theorem By.set {g n : Nat} {x : Nat → Int} {W : World} (h : By g n x W) (i : Nat) (v : Int) : By g n (fun j => if j = i then v else x j) (W.setCell ⟨g, i, none⟩ (.int .u8 v)) := by
  refine ⟨by simpa using h.lt, fun j hj => ?_, fun j hj => by rw [World.frozen?_setCell]; exact h.frz j hj⟩
  show _ = some (Value.int .u8 (if j = i then v else x j))
  by_cases e : j = i
  · subst e
    rw [if_pos rfl]
    exact World.cell?_setCell_same (h := h.cell j hj) ..
  · rw [if_neg e]
    exact (World.cell?_setCell_other (h := by intro h; cases h; exact e rfl) ..).trans (h.cell j hj)
/-- a small letter -/
def sm (c : UInt8) : UInt8 := if 65 ≤ c.toNat ∧ c.toNat ≤ 90 then c + 32 else c
end Go.Proofs.YtmommdhnogogdaaGreatDoor

namespace Go.Proofs.YtmommdhnogogdaaGreatDoor
open Go.RowKit

/-- parts, as a value -/
def PV (c : Int) (s g : Bool) (d : List UInt8) (e : Int) : Value := .agg #[.int .i64 c, .bool s, .bool g, .string (B d), .int .i64 e]
def behind (s : List UInt8) : List UInt8 := if Lib.hasPrefix (rst s) [46] then rst (Lib.trimPrefix (rst s) [46]) else rst s
end Go.Proofs.YtmommdhnogogdaaGreatDoor

namespace Go.Proofs.YtmommdhnogogdaaGreatDoor
open Go.RowKit

/-- a number's parts -/
structure Prt where
  cls : Int
  sg : Bool
  sn : Bool
  dig : List UInt8
  ex : Int
def Prt.v (p : Prt) : Value := PV p.cls p.sg p.sn p.dig p.ex
def Prt.zero : Prt := ⟨0, false, false, [], 0⟩
end Go.Proofs.YtmommdhnogogdaaGreatDoor
