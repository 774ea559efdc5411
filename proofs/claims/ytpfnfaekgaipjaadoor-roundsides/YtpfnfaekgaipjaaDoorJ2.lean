/-
  Texts that the proof leans on, joined: Num, Radd, Left, Right, Cut, Val, Lmul, Tim, Wd, Kp, Nb.
-/
import Derived.Test.YtpfnfaekgaipjaaDoorJ1
import Derived.Deep.AppendLies
import Derived.Deep.RegionHeld3
import Derived.BigRegion
import Derived.Deep.DrawnRows
import Derived.WalkKit
import Derived.BigQuiet
import Derived.Deep.Cut
import Derived.Deep.CutRange
import Derived.Laws.IdiomCopy
import Derived.Laws.CopyRow
import Derived.Deep.WholeRow
set_option linter.unusedVariables false
set_option linter.unusedSimpArgs false
set_option maxRecDepth 20000
set_option linter.unusedSectionVars false
namespace Go.Proofs.YtpfnfaekgaipjaaDoor
open Go.RowKit

/-- the slice (a, n, c) holds the words x; all further words of x are 0 -/
def Num (w : World) (a : Option Addr) (n c : Nat) (x : Nat → Int) : Prop :=
  n ≤ c ∧ c ≤ maxLen ∧ Words x ∧ (∀ i, n ≤ i → x i = 0) ∧ ((a = none ∧ c = 0) ∨ ∃ b off, a = some ⟨b, off, none⟩ ∧ b < w.heap.size ∧ ∀ i, i < n → w.cell? ⟨b, off + i, none⟩ = some (.int .u64 (x i)))
theorem Num.next {w w' : World} {a : Option Addr} {n c : Nat} {x : Nat → Int} (h : Num w a n c x) (hb : Below w.heap.size w w') : Num w' a n c x := by
  obtain ⟨h1, h2, h3, h4, h5⟩ := h
  refine ⟨h1, h2, h3, h4, ?_⟩
  rcases h5 with h5 | ⟨b, off, h6, h7, h8⟩
  · exact Or.inl h5
  · exact Or.inr ⟨b, off, h6, Nat.lt_of_lt_of_le h7 hb.size, fun i hi => (hb.cell (p := ⟨b, off + i, none⟩) h7).trans (h8 i hi)⟩
theorem Num.drewN {w : World} {a : Option Addr} {n c : Nat} {x : Nat → Int} (h : Num w a n c x) (m : Nat) : Num (w.drewN m) a n c x := h

set_option maxHeartbeats 400000 in
theorem word_any (a : Option Addr) (n c i : Nat) (x : Nat → Int) (w : World) (h : Num w a n c x) :
    Calls Tryd.prog 21 #[.slice a n c, .int .i64 i] w fun e w' => e = .returned (.int .u64 (x i)) ∧ w' = w := by
  obtain ⟨h1, h2, h3, h4, h5⟩ := h
  by_cases hi : i < n
  · rcases h5 with ⟨rfl, rfl⟩ | ⟨b, off, rfl, hbs, hc⟩
    · omega
    · have hci := hc i hi
      have hi' : (i : Int) < n := by omega
      clear hc h4 h3
      go_enter Tryd.func21, Tryd.ntmps21
      go_wp2
      go_ret
      exact ⟨rfl, rfl⟩
  · have hz := h4 i (by omega)
    have HZ : Hid (x i = 0) := hz
    clear hz h4 h3 h5
    go_enter Tryd.func21, Tryd.ntmps21
    go_wp2
    go_ret
    exact ⟨ret_int HZ.out.symm, rfl⟩

/-- -1, 0, 1: the words below n, the highest first -/
def cmpL (x y : Nat → Int) : Nat → Int
  | 0 => 0
  | n + 1 => if x n < y n then -1 else if y n < x n then 1 else cmpL x y n

set_option maxHeartbeats 400000 in
theorem cmp_any (a a' : Option Addr) (n c n' c' : Nat) (x y : Nat → Int) (w : World) (hn : n < 4294967296) (hn' : n' < 4294967296) (h : Num w a n c x) (h' : Num w a' n' c' y) :
    Calls Tryd.prog 9 #[.slice a n c, .slice a' n' c'] w fun e w' => e = .returned (.int .i64 (cmpL x y (max n n'))) ∧ w' = w := by
  have hw1 := fun i => word_any a n c i x w h
  have hw2 := fun i => word_any a' n' c' i y w h'
  clear h h'
  go_enter Tryd.func9, Tryd.ntmps9
  go_wp2
  go_loop [5, 6, 7] (fun t u6 u7 => ∃ k : Nat, k ≤ max n n' ∧ cmpL x y k = cmpL x y (max n n') ∧ t = .int .i64 ((k : Int) - 1)) (fun t _ _ => (intOf t + 1).toNat)
  case atStart => exact ⟨max n n', Nat.le_refl _, rfl, by go_num⟩
  case round =>
    obtain ⟨k, hk, hs, rfl⟩ := hrel
    by_cases h0 : k = 0
    · subst h0
      have HS : Hid (cmpL x y (max n n') = 0) := hs.symm
      clear hs
      go_wp2
      go_ret
      exact ⟨ret_int HS.out.symm, rfl⟩
    · obtain ⟨j, rfl⟩ : ∃ j, k = j + 1 := ⟨k - 1, by omega⟩
      have ej : ((j + 1 : Nat) : Int) - 1 = j := by omega
      have hj : j < 4294967296 := by omega
      rw [ej]
      have HS : Hid ((if x j < y j then -1 else if y j < x j then 1 else cmpL x y j) = cmpL x y (max n n')) := hs
      have hkm : j ≤ max n n' := by omega
      clear hs ej hk
      have hwa := hw1 j
      have hwb := hw2 j
      by_cases hlt : x j < y j
      · have HR : Hid (cmpL x y (max n n') = -1) := by rw [← HS.out, if_pos hlt]; rfl
        clear HS
        go_wp2_with (first | (go_at_call_of 21 (Value.slice a n c); refine hwa.mono ?_; rintro e w' ⟨rfl, rfl⟩) | (go_at_call_of 21 (Value.slice a' n' c'); refine hwb.mono ?_; rintro e w' ⟨rfl, rfl⟩))
        go_ret
        exact ⟨ret_int HR.out.symm, rfl⟩
      · by_cases hgt : y j < x j
        · have HR : Hid (cmpL x y (max n n') = 1) := by rw [← HS.out, if_neg hlt, if_pos hgt]; rfl
          clear HS
          go_wp2_with (first | (go_at_call_of 21 (Value.slice a n c); refine hwa.mono ?_; rintro e w' ⟨rfl, rfl⟩) | (go_at_call_of 21 (Value.slice a' n' c'); refine hwb.mono ?_; rintro e w' ⟨rfl, rfl⟩))
          go_ret
          exact ⟨ret_int HR.out.symm, rfl⟩
        · have HR : Hid (cmpL x y j = cmpL x y (max n n')) := by rw [← HS.out, if_neg hlt, if_neg hgt]; rfl
          clear HS
          go_wp2_with (first | (go_at_call_of 21 (Value.slice a n c); refine hwa.mono ?_; rintro e w' ⟨rfl, rfl⟩) | (go_at_call_of 21 (Value.slice a' n' c'); refine hwb.mono ?_; rintro e w' ⟨rfl, rfl⟩))
          go_round
          case rel => exact ⟨j, hkm, HR.out, by go_num⟩
          case measure => simp [intOf]

theorem Tryd.info26 : (Tryd.prog.info? 26).map (fun i => (i.zero, i.size, i.bytes)) = some (some (.int .u64 0), 1, 8) := by kernel_rfl
theorem num_of_owns {w w' : World} {g k cap base : Nat} {x : Nat → Int} (hx : Words x) (hz : ∀ i, k ≤ i → x i = 0) (h : w'.ownsRow base 26 1 (.slice (some ⟨g, 0, none⟩) k cap) k ((List.range k).map fun i => Value.int .u64 (x i))) (hg : g < w'.heap.size) : Num w' (some ⟨g, 0, none⟩) k cap x := by
  obtain ⟨hl, h⟩ := h
  rcases h with ⟨h, _⟩ | ⟨g', cap', cur, he, hb, hh, h1, h2, h3, h4⟩
  · cases h
  · cases he
    refine ⟨h1, h2, hx, hz, Or.inr ⟨g, 0, rfl, hg, fun i hi => ?_⟩⟩
    rw [Nat.zero_add]
    have hcur : cur[i]? = some (.int .u64 (x i)) := by
      have : (cur.toList.take (k * 1))[i]? = some (.int .u64 (x i)) := by rw [h4]; simp [hi]
      rw [List.getElem?_take] at this
      simpa [hi] using this
    unfold World.cell?
    simp [hh, hcur]

set_option maxHeartbeats 1000000 in
theorem trim_some (b off n c : Nat) (x : Nat → Int) (w : World) (hn : n < 4294967296) (h : Num w (some ⟨b, off, none⟩) n c x) :
    Calls Tryd.prog 22 #[.slice (some ⟨b, off, none⟩) n c] w fun e w' => ∃ g cap, e = .returned (.slice (some ⟨g, 0, none⟩) (sizeL x n) cap) ∧ Num w' (some ⟨g, 0, none⟩) (sizeL x n) cap x ∧ Below w.heap.size w w' := by
  obtain ⟨h1, h2, h3, h4, h5⟩ := h
  have hc : b < w.heap.size ∧ ∀ i, i < n → w.cell? ⟨b, off + i, none⟩ = some (.int .u64 (x i)) := by
    rcases h5 with ⟨h, _⟩ | ⟨b', off', h, hbs, hc⟩
    · cases h
    · cases h; exact ⟨hbs, hc⟩
  obtain ⟨hbs, hc⟩ := hc
  clear h5
  obtain ⟨i0, hi, hz0, hz1, hz2⟩ := info_parts Tryd.info26
  unfold maxLen at h2
  go_enter Tryd.func22, Tryd.ntmps22
  go_wp2
  go_loop [3] (fun t => ∃ k : Nat, k ≤ n ∧ sizeL x k = sizeL x n ∧ (∀ i, k ≤ i → x i = 0) ∧ t = .int .i64 k) (fun t => (intOf t).toNat)
  case atStart => exact ⟨n, Nat.le_refl _, rfl, h4, rfl⟩
  case round =>
    obtain ⟨k, hk, hs, hz, rfl⟩ := hrel
    clear h4
    by_cases h0 : k = 0
    · subst h0
      have HS : Hid (sizeL x n = 0) := hs.symm
      have HN : Hid (Num (w.alloc (.cells #[] 26)) (some ⟨w.heap.size, 0, none⟩) 0 0 x) := ⟨Nat.le_refl _, by unfold maxLen; omega, h3, hz, Or.inr ⟨w.heap.size, 0, rfl, by simp, fun i hi => by omega⟩⟩
      clear hs hz hc h3
      go_wp2
      go_ret
      refine ⟨w.heap.size, 0, ?_, ?_, (Below.refl _ _).alloc (Nat.le_refl _) _⟩
      · rw [HS.out]; rfl
      · rw [HS.out]; exact HN.out
    · obtain ⟨j, rfl⟩ : ∃ j, k = j + 1 := ⟨k - 1, by omega⟩
      have hcj := hc j (by omega)
      by_cases hzj : x j = 0
      · have HS : Hid (sizeL x j = sizeL x n) := by
          have : sizeL x (j + 1) = sizeL x j := by simp [sizeL, hzj]
          exact this.symm.trans hs
        have HZ : Hid (∀ i, j ≤ i → x i = 0) := fun i hji => by
          by_cases e : i = j
          · rw [e]; exact hzj
          · exact hz i (by omega)
        clear hs hz hc
        go_wp2
        go_round
        case rel => exact ⟨j, by omega, HS.out, HZ.out, by go_num⟩
        case measure => simp [intOf]
      · have HS : Hid (sizeL x n = j + 1) := by
          have : sizeL x (j + 1) = j + 1 := by simp [sizeL, hzj]
          exact hs.symm.trans this
        have HZ : Hid (∀ i, j + 1 ≤ i → x i = 0) := hz
        have HC : Hid (∀ i, i < n → w.cell? ⟨b, off + i, none⟩ = some (.int .u64 (x i))) := hc
        clear hs hz hc
        have HOWN : (w.alloc (.cells #[] 26)).ownsRow w.heap.size 26 1 (.slice (some ⟨w.heap.size, 0, none⟩) 0 0) 0 [] :=
          ⟨rfl, Or.inr ⟨w.heap.size, 0, #[], rfl, Nat.le_refl _, (MapKept.heap_alloc w _).1, Nat.le_refl _, by unfold maxLen; omega, rfl, rfl⟩⟩
        have HNEWS : ∀ (q : Nat) (u : Value), ((List.range (j + 1)).map fun i => Value.int .u64 (x i))[q]? = some u → (w.alloc (.cells #[] 26)).cell? ((⟨b, off, none⟩ : Addr).add q) = some u := by
          intro q u hq
          have hql : q < j + 1 := by
            rcases Nat.lt_or_ge q (j + 1) with h | h
            · exact h
            · rw [List.getElem?_eq_none (by simpa using h)] at hq; cases hq
          have e2 : u = .int .u64 (x q) := by simpa [hql] using hq.symm
          rw [e2]
          have ea : (⟨b, off, none⟩ : Addr).add q = ⟨b, off + q, none⟩ := by simp [Addr.add]
          rw [ea]
          exact (((Below.refl w.heap.size w).alloc (Nat.le_refl _) _).cell (p := ⟨b, off + q, none⟩) hbs).trans (HC.out q (by omega))
        have HONE : ∀ u ∈ ((List.range (j + 1)).map fun i => Value.int .u64 (x i)), u.oneCell' = true := by
          intro u hu
          obtain ⟨q, _, rfl⟩ := List.mem_map.1 hu
          rfl
        go_wp2_with (at_builtin; refine wpList_append_lies _ rfl (.tmp 18) (.tmp 21) 22 rfl w.heap.size 26 i0 (.int .u64 0) 1 8 Tryd.underlying22 hi hz0 hz1 hz2 rfl (by decide) (.slice (some ⟨w.heap.size, 0, none⟩) 0 0) 0 [] rfl HOWN ⟨b, off, none⟩ (j + 1) c ((List.range (j + 1)).map fun i => Value.int .u64 (x i)) rfl (by simp) HNEWS HONE (by omega) (by unfold maxLen; omega) (by omega) (by simp) (w.heap.size + 1) (by simp) ?_; intro g cap w1 hown hgrow hat hlt; clear HOWN HNEWS HONE)
        have hown' : w1.ownsRow w.heap.size 26 1 (.slice (some ⟨g, 0, none⟩) (j + 1) cap) (j + 1) ((List.range (j + 1)).map fun i => Value.int .u64 (x i)) := by
          have e0 : 0 + (j + 1) = j + 1 := by omega
          rw [e0] at hown
          simpa using hown
        have HN := num_of_owns (w := w) h3 HZ.out hown' hlt
        have HB : Below w.heap.size w w1 := ((Below.refl _ _).alloc (Nat.le_refl _) _).grown hgrow (by simp) (by intro k hk; cases hk; exact Nat.le_refl _)
        clear hown hown' hgrow
        go_wp2
        go_ret
        refine ⟨g, cap, ?_, ?_, HB⟩
        · rw [HS.out]; simp
        · rw [HS.out]; exact HN

set_option maxHeartbeats 400000 in
theorem trim_nil (x : Nat → Int) (w : World) (hx : ∀ i, x i = 0) :
    Calls Tryd.prog 22 #[.slice none 0 0] w fun e w' => ∃ g cap, e = .returned (.slice (some ⟨g, 0, none⟩) 0 cap) ∧ Num w' (some ⟨g, 0, none⟩) 0 cap x ∧ Below w.heap.size w w' := by
  go_enter Tryd.func22, Tryd.ntmps22
  go_wp2
  go_loop [3] (fun t => t = .int .i64 0) (fun t => (intOf t).toNat)
  case atStart => rfl
  case round =>
    subst hrel
    go_wp2
    go_ret
    refine ⟨w.heap.size, 0, rfl, ?_, (Below.refl _ _).alloc (Nat.le_refl _) _⟩
    exact ⟨Nat.le_refl _, by unfold maxLen; omega, fun i => by rw [hx i]; decide, fun i _ => hx i, Or.inr ⟨w.heap.size, 0, rfl, by simp, fun i hi => by omega⟩⟩
theorem trim_any (a : Option Addr) (n c : Nat) (x : Nat → Int) (w : World) (hn : n < 4294967296) (h : Num w a n c x) :
    Calls Tryd.prog 22 #[.slice a n c] w fun e w' => ∃ g cap, e = .returned (.slice (some ⟨g, 0, none⟩) (sizeL x n) cap) ∧ Num w' (some ⟨g, 0, none⟩) (sizeL x n) cap x ∧ Below w.heap.size w w' := by
  have h' := h
  obtain ⟨h1, h2, h3, h4, h5⟩ := h'
  rcases h5 with ⟨rfl, rfl⟩ | ⟨b, off, rfl, _, _⟩
  · obtain rfl : n = 0 := by omega
    exact trim_nil x w (fun i => h4 i (Nat.zero_le _))
  · exact trim_some b off n c x w hn h
end Go.Proofs.YtpfnfaekgaipjaaDoor

namespace Go.Proofs.YtpfnfaekgaipjaaDoor
open Go.RowKit

theorem made_zero (k : Nat) : madeCells (Value.int .u64 0).cells k = arrOf (fun _ => 0) k := by
  apply Array.ext
  · simp [madeCells]
  · intro i h1 h2
    rw [arrOf_get]
    simp [madeCells, Value.cells, Nat.mod_one]
theorem make_any (L : Int) (k : Nat) (hL : L = k) (hk : k < 8589934592) (w : World) : (Instr.makeSlice 22 (.int .i64 L) (.int .i64 L)).run Tryd.prog w = .ok (.slice (some ⟨w.heap.size, 0, none⟩) k k) (w.alloc (.cells (arrOf (fun _ => 0) k) 26)) := by
  obtain ⟨i0, hi, hz0, hz1, hz2⟩ := info_parts Tryd.info26
  rw [run_make w 22 26 i0 (.int .u64 0) Tryd.underlying22 hi hz0 .i64 .i64 L L (by omega) (by omega) (by rw [hz2]; omega) (by omega)]
  have e1 : L.toNat = k := by omega
  rw [e1, hz1, Nat.mul_one, made_zero]
theorem num_of_block {w : World} {k : Nat} {x : Nat → Int} {ss : Array Value} (hk : k < 8589934592) (hx : Words x) (hz : ∀ i, k ≤ i → x i = 0) (hsz : ss.size = k) (hss : ∀ j h, ss[j]'h = Value.int .u64 (x j)) : Num (w.alloc (.cells ss 26)) (some ⟨w.heap.size, 0, none⟩) k k x := by
  refine ⟨Nat.le_refl _, by unfold maxLen; omega, hx, hz, Or.inr ⟨w.heap.size, 0, rfl, by simp, fun i hi => ?_⟩⟩
  rw [Nat.zero_add, World.cell?_alloc_new, Array.getElem?_eq_getElem (by omega), hss i (by omega)]
theorem below1 (w : World) (o : Obj) : Below w.heap.size w (w.alloc o) := (Below.refl _ _).alloc (Nat.le_refl _) _

theorem sumW_words (x y : Nat → Int) : Words (sumW x y) := fun i => ⟨Int.emod_nonneg _ (by decide), by have := Int.emod_lt_of_pos (x i + y i + carryW x y i) (b := 18446744073709551616) (by decide); unfold sumW; omega⟩
theorem difW_words (x y : Nat → Int) : Words (difW x y) := fun i => ⟨Int.emod_nonneg _ (by decide), by have := Int.emod_lt_of_pos (x i - y i - borW x y i) (b := 18446744073709551616) (by decide); unfold difW; omega⟩
/-- the difference, cut at M words -/
def difZ (x y : Nat → Int) (M i : Nat) : Int := if i < M then difW x y i else 0
theorem difZ_words (x y : Nat → Int) (M : Nat) : Words (difZ x y M) := fun i => by unfold difZ; split; exact difW_words x y i; decide

end Go.Proofs.YtpfnfaekgaipjaaDoor

namespace Go.Proofs.YtpfnfaekgaipjaaDoor
open Go.RowKit
attribute [local go_sem ↓] Go.wp_at_zero Go.wp_at_succ
attribute [local go_sem] setCell_drewN alloc_drewN

/-- 'or' of two words -/
def orW (a b : Int) : Int := bits BinOp.or IntKind.u64 a b
theorem orW_eq (a b : Int) (ha : 0 ≤ a ∧ a ≤ 18446744073709551615) (hb : 0 ≤ b ∧ b ≤ 18446744073709551615) : orW a b = ((a.toNat ||| b.toNat : Nat) : Int) := u64_or a b ha.1 (by omega) hb.1 (by omega)
theorem orW_comm (a b : Int) (ha : 0 ≤ a ∧ a ≤ 18446744073709551615) (hb : 0 ≤ b ∧ b ≤ 18446744073709551615) : orW a b = orW b a := by
  rw [orW_eq a b ha hb, orW_eq b a hb ha, Nat.or_comm]
theorem orW_zero (a : Int) (ha : 0 ≤ a ∧ a ≤ 18446744073709551615) : orW a 0 = a := by
  rw [orW_eq a 0 ha (by decide)]; simp; omega
theorem zero_orW (a : Int) (ha : 0 ≤ a ∧ a ≤ 18446744073709551615) : orW 0 a = a := by
  rw [orW_eq 0 a (by decide) ha]; simp; omega
theorem orW_word (a b : Int) (ha : 0 ≤ a ∧ a ≤ 18446744073709551615) (hb : 0 ≤ b ∧ b ≤ 18446744073709551615) : 0 ≤ orW a b ∧ orW a b ≤ 18446744073709551615 := by
  rw [orW_eq a b ha hb]
  have : a.toNat ||| b.toNat < 2 ^ 64 := Nat.or_lt_two_pow (by omega) (by omega)
  omega
theorem wrap_word (a : Int) : 0 ≤ IntKind.u64.wrap a ∧ IntKind.u64.wrap a ≤ 18446744073709551615 := by
  simp only [IntKind.wrap, IntKind.bits, IntKind.signed]
  have h1 := Int.emod_nonneg a (b := 18446744073709551616) (by decide)
  have h2 := Int.emod_lt_of_pos a (b := 18446744073709551616) (by decide)
  simp; omega
theorem wrap_id (a : Int) (ha : 0 ≤ a ∧ a ≤ 18446744073709551615) : IntKind.u64.wrap a = a := by
  simp only [IntKind.wrap, IntKind.bits, IntKind.signed]
  simp; omega
theorem div_word (a : Int) (e : Nat) (ha : 0 ≤ a ∧ a ≤ 18446744073709551615) : 0 ≤ a / 2 ^ e ∧ a / 2 ^ e ≤ 18446744073709551615 := by
  have hp : (0 : Int) < 2 ^ e := Int.pow_pos (by decide)
  have h1 := Int.ediv_nonneg ha.1 (Int.le_of_lt hp)
  have h2 := Int.ediv_le_self (2 ^ e) ha.1
  omega

/-- the bits that come in from the word below -/
def lowp (x : Nat → Int) (q r j : Nat) : Int := if q + 1 ≤ j ∧ 0 < r then x (j - q - 1) / 2 ^ (64 - r) else 0
/-- the words of x times 2^(64 q + r) -/
def finL (x : Nat → Int) (q r j : Nat) : Int := if q ≤ j then orW (lowp x q r j) (IntKind.u64.wrap (x (j - q) * 2 ^ r)) else 0
theorem lowp_word {x : Nat → Int} (hx : Words x) (q r j : Nat) : 0 ≤ lowp x q r j ∧ lowp x q r j ≤ 18446744073709551615 := by
  unfold lowp; split
  · exact div_word _ _ (hx _)
  · decide
theorem finL_words {x : Nat → Int} (hx : Words x) (q r : Nat) : Words (finL x q r) := fun j => by
  unfold finL; split
  · exact orW_word _ _ (lowp_word hx q r j) (wrap_word _)
  · decide
end Go.Proofs.YtpfnfaekgaipjaaDoor

namespace Go.Proofs.YtpfnfaekgaipjaaDoor
open Go.RowKit

/-- the words of x divided by 2^(64 q + r) -/
def shrW (x : Nat → Int) (q r j : Nat) : Int := if r = 0 then x (q + j) else orW (x (q + j) / 2 ^ r) (IntKind.u64.wrap (x (q + j + 1) * 2 ^ (64 - r)))
theorem shrW_words {x : Nat → Int} (hx : Words x) (q r : Nat) : Words (shrW x q r) := fun j => by
  unfold shrW; split
  · exact hx _
  · exact orW_word _ _ (div_word _ _ (hx _)) (wrap_word _)
theorem shrW_zero {x : Nat → Int} {n : Nat} (zx : ∀ i, n ≤ i → x i = 0) (q r j : Nat) (hj : n ≤ q + j) : shrW x q r j = 0 := by
  unfold shrW; split
  · exact zx _ hj
  · rw [zx _ hj, zx (q + j + 1) (by omega), Int.zero_mul, Int.zero_ediv, wrap_id 0 (by decide), orW_zero 0 (by decide)]
def wl (f : Nat → Int) (k : Nat) : List Value := (List.range k).map fun i => Value.int .u64 (f i)
end Go.Proofs.YtpfnfaekgaipjaaDoor

namespace Go.Proofs.YtpfnfaekgaipjaaDoor
open Go.RowKit

/-- the words below q -/
def lowW (x : Nat → Int) (q i : Nat) : Int := if i < q then x i else 0
theorem lowW_words {x : Nat → Int} (hx : Words x) (q : Nat) : Words (lowW x q) := fun i => by unfold lowW; split; exact hx i; decide
set_option maxHeartbeats 1000000 in
def oneW (c : Int) (j : Nat) : Int := if j = 0 then c else 0
theorem num_one (w : World) (c : Int) (hc : 0 ≤ c ∧ c ≤ 18446744073709551615) : Num (w.alloc (.cells #[.int .u64 c] 26)) (some ⟨w.heap.size, 0, none⟩) 1 1 (oneW c) :=
  num_of_block (by omega) (fun i => by unfold oneW; split; exact hc; decide) (fun i hi => by unfold oneW; rw [if_neg (by omega)]) rfl (fun j hj => match j, hj with | 0, _ => rfl)

end Go.Proofs.YtpfnfaekgaipjaaDoor

namespace Go.Proofs.YtpfnfaekgaipjaaDoor

/-- the value of the n lowest words -/
def val (x : Nat → Int) : Nat → Int
  | 0 => 0
  | n + 1 => val x n + x n * 18446744073709551616 ^ n
theorem val_congr {x y : Nat → Int} : ∀ n, (∀ i, i < n → x i = y i) → val x n = val y n
  | 0, _ => rfl
  | n + 1, h => by simp only [val]; rw [val_congr n fun i hi => h i (by omega), h n (by omega)]
theorem pw_pos (n : Nat) : (0 : Int) < 18446744073709551616 ^ n := Int.pow_pos (by decide)
theorem val_bd {x : Nat → Int} (hx : ∀ i, 0 ≤ x i ∧ x i ≤ 18446744073709551615) : ∀ n, 0 ≤ val x n ∧ val x n < 18446744073709551616 ^ n
  | 0 => by simp [val]
  | n + 1 => by
    have ih := val_bd hx n
    have hb := hx n
    have hp := pw_pos n
    simp only [val]
    have h1 : 0 ≤ x n * 18446744073709551616 ^ n := Int.mul_nonneg hb.1 (Int.le_of_lt hp)
    have h2 : x n * 18446744073709551616 ^ n ≤ 18446744073709551615 * 18446744073709551616 ^ n := Int.mul_le_mul_of_nonneg_right hb.2 (Int.le_of_lt hp)
    rw [Int.pow_succ]
    omega
theorem val_set (x : Nat → Int) (p : Nat) (v : Int) : ∀ n, p < n → val (fun i => if i = p then v else x i) n = val x n + (v - x p) * 18446744073709551616 ^ p
  | 0, h => by omega
  | n + 1, h => by
    simp only [val]
    by_cases e : n = p
    · subst e
      rw [if_pos rfl, val_congr (y := x) n fun i hi => if_neg (by omega), Int.sub_mul]; omega
    · rw [if_neg e, val_set x p v n (by omega)]; omega
/-- words are told by the value -/
theorem val_inj {x y : Nat → Int} (hx : ∀ i, 0 ≤ x i ∧ x i ≤ 18446744073709551615) (hy : ∀ i, 0 ≤ y i ∧ y i ≤ 18446744073709551615) : ∀ n, val x n = val y n → ∀ i, i < n → x i = y i
  | 0, _, i, hi => by omega
  | n + 1, h, i, hi => by
    simp only [val] at h
    have bx := val_bd hx n
    have b_y := val_bd hy n
    have hp := pw_pos n
    have e1 : (val x n + x n * 18446744073709551616 ^ n) / 18446744073709551616 ^ n = x n := by
      rw [Int.add_mul_ediv_right _ _ (Int.ne_of_gt hp), Int.ediv_eq_zero_of_lt bx.1 bx.2]; omega
    have e2 : (val y n + y n * 18446744073709551616 ^ n) / 18446744073709551616 ^ n = y n := by
      rw [Int.add_mul_ediv_right _ _ (Int.ne_of_gt hp), Int.ediv_eq_zero_of_lt b_y.1 b_y.2]; omega
    have e3 : x n = y n := by rw [← e1, ← e2, h]
    by_cases e : i = n
    · subst e; exact e3
    · rw [e3] at h
      exact val_inj hx hy n (by omega) i (by omega)
theorem val_more {x : Nat → Int} {n : Nat} (hz : ∀ i, n ≤ i → x i = 0) : ∀ m, n ≤ m → val x m = val x n
  | 0, h => by obtain rfl : n = 0 := by omega
               rfl
  | m + 1, h => by
    by_cases e : n = m + 1
    · rw [e]
    · simp only [val]; rw [val_more hz m (by omega), hz m (by omega)]; omega

/-- one word's product, the word that lies there and the carry: what is laid and what is carried -/
theorem mul_step (a b z c : Int) (ha : 0 ≤ a ∧ a ≤ 18446744073709551615) (hb : 0 ≤ b ∧ b ≤ 18446744073709551615) (hz : 0 ≤ z ∧ z ≤ 18446744073709551615) (hc : 0 ≤ c ∧ c ≤ 18446744073709551615) :
    ((a * b % 18446744073709551616 + z) % 18446744073709551616 + c) % 18446744073709551616 + (a * b / 18446744073709551616 + (a * b % 18446744073709551616 + z) / 18446744073709551616 + ((a * b % 18446744073709551616 + z) % 18446744073709551616 + c) / 18446744073709551616) * 18446744073709551616 = a * b + z + c ∧
    0 ≤ a * b / 18446744073709551616 + (a * b % 18446744073709551616 + z) / 18446744073709551616 ∧ a * b / 18446744073709551616 + (a * b % 18446744073709551616 + z) / 18446744073709551616 ≤ 18446744073709551615 ∧
    0 ≤ a * b / 18446744073709551616 + (a * b % 18446744073709551616 + z) / 18446744073709551616 + ((a * b % 18446744073709551616 + z) % 18446744073709551616 + c) / 18446744073709551616 ∧ a * b / 18446744073709551616 + (a * b % 18446744073709551616 + z) / 18446744073709551616 + ((a * b % 18446744073709551616 + z) % 18446744073709551616 + c) / 18446744073709551616 ≤ 18446744073709551615 := by
  have h1 : 0 ≤ a * b := Int.mul_nonneg ha.1 hb.1
  have h2 : a * b ≤ 18446744073709551615 * 18446744073709551615 := Int.mul_le_mul ha.2 hb.2 hb.1 (by decide)
  generalize a * b = P at *
  omega
end Go.Proofs.YtpfnfaekgaipjaaDoor

namespace Go.Proofs.YtpfnfaekgaipjaaDoor
open Go.RowKit
attribute [local go_sem] setCell_drewN alloc_drewN

theorem mul64 (x y : Int) (hx : 0 ≤ x ∧ x ≤ 18446744073709551615) (hy : 0 ≤ y ∧ y ≤ 18446744073709551615) (w : World) :
    Calls Tryd.prog 66 #[.int .u64 x, .int .u64 y] w fun e w' => e = .returned (.tuple #[.int .u64 (x * y / 18446744073709551616), .int .u64 (x * y % 18446744073709551616)]) ∧ w' = w := by
  obtain ⟨a, rfl⟩ := Int.eq_ofNat_of_zero_le hx.1
  obtain ⟨b, rfl⟩ := Int.eq_ofNat_of_zero_le hy.1
  have h := Tryd.bits_Mul64 a b (by omega) (by omega) w
  rw [Int.natCast_ediv, Int.natCast_emod, Int.natCast_mul] at h
  exact h
theorem add64z (x y : Int) (hx : 0 ≤ x) (hy : 0 ≤ y) (w : World) : (callFunc 61 #[.int .u64 x, .int .u64 y, .int .u64 0]).run Tryd.prog w =
    .ok (.value (.tuple #[.int .u64 ((x + y) % 18446744073709551616), .int .u64 ((x + y) / 18446744073709551616)])) w := by
  simpa using add64 x y 0 hx hy (Int.le_refl 0) (by decide) w

end Go.Proofs.YtpfnfaekgaipjaaDoor

namespace Go.Proofs.YtpfnfaekgaipjaaDoor
open Go.RowKit
attribute [local go_sem] setCell_drewN alloc_drewN

theorem upd_words {z : Nat → Int} {p : Nat} {v : Int} (hz : Words z) (hv : 0 ≤ v ∧ v ≤ 18446744073709551615) : Words (fun j => if j = p then v else z j) := fun i => by
  show 0 ≤ (if i = p then v else z i) ∧ (if i = p then v else z i) ≤ _
  split
  · exact hv
  · exact hz i
end Go.Proofs.YtpfnfaekgaipjaaDoor

namespace Go.Proofs.YtpfnfaekgaipjaaDoor
open Go.RowKit

/-- a world of the class p -/
structure Wd (p : World → Prop) where
  w : World
  h : p w

theorem wp_region_wd {P : Program} (p : World → Prop) {id : Nat} {Q : Exit → Act → World → Prop} {a : Act} {w : World} {l : List Oper} (hm : P.follows .mixedOrders = true) (hB : Region.lexB .any l.toArray = true) (hp : p w.drew)
    (h : wpQuiet P l.toArray (fun w' => ∃ t : Wd p, w' = t.w) (fun a' => ∀ w', (∃ t : Wd p, w' = t.w) → Q .normal a' w') l a) : (Code.region id l.toArray true).wp P Q a w :=
  wp_region_quiet (C := fun w' => ∃ t : Wd p, w' = t.w) hm hB ⟨⟨_, hp⟩, rfl⟩ (by simpa using h)

theorem calls_wd {P : Program} {p : World → Prop} {f : FuncId} {args : Array Value} {v : Value} (t : Wd p) (hp : ∀ w w', p w → Below w.heap.size w w' → p w')
    (h : Calls P f args t.w fun e w' => e = .returned v ∧ Below t.w.heap.size t.w w') : Calls P f args t.w fun e w'' => e = .returned v ∧ ∃ t' : Wd p, w'' = t'.w :=
  h.mono fun _ w' ⟨h1, h2⟩ => ⟨h1, ⟨w', hp _ _ t.h h2⟩, rfl⟩
end Go.Proofs.YtpfnfaekgaipjaaDoor

namespace Go.Proofs.YtpfnfaekgaipjaaDoor
open Go.RowKit

/-- the words of x lie in block g -/
def HasN (g n : Nat) (x : Nat → Int) (w : World) : Prop := g < w.heap.size ∧ ∀ i, i < n → w.cell? ⟨g, i, none⟩ = some (.int .u64 (x i))
theorem HasN.next {g n : Nat} {x : Nat → Int} {w w' : World} (h : HasN g n x w) (hb : Below w.heap.size w w') : HasN g n x w' :=
  ⟨Nat.lt_of_lt_of_le h.1 hb.size, fun i hi => (hb.cell (p := ⟨g, i, none⟩) h.1).trans (h.2 i hi)⟩
theorem HasN.of_alloc (w : World) (cs : Array Value) (t : TypeId) (n : Nat) (x : Nat → Int) (h : ∀ i, i < n → cs[i]? = some (.int .u64 (x i))) : HasN w.heap.size n x (w.alloc (.cells cs t)) :=
  ⟨by simp, fun i hi => by rw [World.cell?_alloc_new]; exact h i hi⟩
theorem HasN.num {g n c m : Nat} {x : Nat → Int} {w : World} (h : HasN g m x w) (hx : Words x) (hn : n ≤ m) (hc : n ≤ c) (hcm : c ≤ maxLen) : Num w (some ⟨g, 0, none⟩) n c (lowW x n) :=
  ⟨hc, hcm, lowW_words hx n, fun i hi => by unfold lowW; rw [if_neg (by omega)], Or.inr ⟨g, 0, rfl, h.1, fun i hi => by rw [Nat.zero_add, h.2 i (by omega)]; unfold lowW; rw [if_pos hi]⟩⟩

/-- all the blocks of the list stand; nothing elder than the call has turned -/
def KP (w0 : World) (l : List (Nat × Nat × (Nat → Int))) (w : World) : Prop := Below w0.heap.size w0 w ∧ ∀ e ∈ l, HasN e.1 e.2.1 e.2.2 w
theorem KP.next {w0 : World} {l : List (Nat × Nat × (Nat → Int))} {w w' : World} (h : KP w0 l w) (hb : Below w.heap.size w w') : KP w0 l w' := ⟨h.1.trans (hb.mono h.1.size), fun e he => (h.2 e he).next hb⟩
theorem KP.drew {w0 : World} {l : List (Nat × Nat × (Nat → Int))} {w : World} (h : KP w0 l w) : KP w0 l w.drew := ⟨h.1.drew, h.2⟩
theorem KP.alloc {w0 : World} {l : List (Nat × Nat × (Nat → Int))} {w : World} (h : KP w0 l w) (o : Obj) : KP w0 l (w.alloc o) := h.next (below1 w o)
theorem KP.setg {w0 : World} {l : List (Nat × Nat × (Nat → Int))} {w wg : World} (h : KP w0 l w) (hg : KP w0 l wg) (i : Nat) (v : Value) : KP w0 l (w.setCell ⟨wg.heap.size, i, none⟩ v) := by
  refine ⟨h.1.setCell hg.1.size v, fun e he => ?_⟩
  have h1 := h.2 e he
  have h2 := (hg.2 e he).1
  have hb : Below (e.1 + 1) w (w.setCell ⟨wg.heap.size, i, none⟩ v) := (Below.refl _ _).setCell (by show e.1 + 1 ≤ wg.heap.size; omega) v
  exact ⟨Nat.lt_of_lt_of_le h1.1 hb.size, fun j hj => (hb.cell (p := ⟨e.1, j, none⟩) (by show e.1 < e.1 + 1; omega)).trans (h1.2 j hj)⟩
theorem KP.cons {w0 : World} {l : List (Nat × Nat × (Nat → Int))} {w : World} (h : KP w0 l w) {g n : Nat} {x : Nat → Int} (hg : HasN g n x w) : KP w0 ((g, n, x) :: l) w := ⟨h.1, fun e he => by
  rcases List.mem_cons.1 he with rfl | he
  · exact hg
  · exact h.2 e he⟩
theorem KP.at {w0 : World} {l : List (Nat × Nat × (Nat → Int))} {w : World} (h : KP w0 l w) {g n : Nat} {x : Nat → Int} (hm : (g, n, x) ∈ l) : HasN g n x w := h.2 _ hm
theorem lt_alloc' {W w3 : World} {o : Obj} {n : Nat} (hb : Below n (W.alloc o) w3) : W.heap.size < w3.heap.size := by
  have h := hb.size
  have h2 : (W.alloc o).heap.size = W.heap.size + 1 := World.size_alloc W o
  omega
theorem KP.new {w0 : World} {l : List (Nat × Nat × (Nat → Int))} {w : World} (h : KP w0 l w) (cs : Array Value) (t : TypeId) (n : Nat) (x : Nat → Int) (hc : ∀ i, i < n → cs[i]? = some (.int .u64 (x i))) : KP w0 ((w.heap.size, n, x) :: l) (w.alloc (.cells cs t)) :=
  (h.alloc _).cons (HasN.of_alloc w cs t n x hc)
/-- n cells of a block that was made some time ago, written one by one -/
def putN (w : World) (g : Nat) (x : Nat → Int) : Nat → World
  | 0 => w
  | n + 1 => (putN w g x n).setCell ⟨g, n, none⟩ (.int .u64 (x n))
theorem putN_kp {w0 : World} {l : List (Nat × Nat × (Nat → Int))} {w wg : World} (h : KP w0 l w) (hg : KP w0 l wg) (x : Nat → Int) : ∀ n, KP w0 l (putN w wg.heap.size x n)
  | 0 => h
  | n + 1 => (putN_kp h hg x n).setg hg n _
theorem putN_size (w : World) (g : Nat) (x : Nat → Int) : ∀ n, w.heap.size ≤ (putN w g x n).heap.size
  | 0 => Nat.le_refl _
  | n + 1 => Nat.le_trans (putN_size w g x n) ((Below.refl 0 _).setCell (Nat.zero_le _) _ : Below 0 _ _).size
theorem putN_cell (w : World) (g N : Nat) (x : Nat → Int) (hc : ∀ i, i < N → (w.cell? ⟨g, i, none⟩).isSome = true) : ∀ n, n ≤ N → ∀ i, i < N → (putN w g x n).cell? ⟨g, i, none⟩ = if i < n then some (.int .u64 (x i)) else w.cell? ⟨g, i, none⟩
  | 0, _, i, _ => by rw [if_neg (by omega)]; rfl
  | n + 1, hn, i, hi => by
    have ih := putN_cell w g N x hc n (by omega)
    show ((putN w g x n).setCell ⟨g, n, none⟩ (.int .u64 (x n))).cell? ⟨g, i, none⟩ = _
    by_cases e : i = n
    · subst e
      rw [if_pos (by omega)]
      have := ih i hi
      rw [if_neg (by omega)] at this
      exact World.cell?_setCell_same' _ _ _ (by rw [this]; exact hc i hi)
    · have hne : (⟨g, n, none⟩ : Addr) ≠ ⟨g, i, none⟩ := by intro h; injection h with h1 h2; exact e h2.symm
      refine Eq.trans (World.cell?_setCell_other (h := hne) ..) ?_
      rw [ih i hi]
      by_cases e2 : i < n
      · rw [if_pos e2, if_pos (by omega)]
      · rw [if_neg e2, if_neg (by omega)]
theorem KP.put {w0 : World} {l : List (Nat × Nat × (Nat → Int))} {w wg : World} (h : KP w0 l w) (hg : KP w0 l wg) (hlt : wg.heap.size < w.heap.size) (x : Nat → Int) (n : Nat) (hc : ∀ i, i < n → (w.cell? ⟨wg.heap.size, i, none⟩).isSome = true) : KP w0 ((wg.heap.size, n, x) :: l) (putN w wg.heap.size x n) :=
  (putN_kp h hg x n).cons ⟨Nat.lt_of_lt_of_le hlt (putN_size w _ x n), fun i hi => by rw [putN_cell w wg.heap.size n x hc n (Nat.le_refl _) i hi, if_pos hi]⟩
end Go.Proofs.YtpfnfaekgaipjaaDoor

namespace Go.Proofs.YtpfnfaekgaipjaaDoor
open Go.RowKit

set_option maxHeartbeats 400000 in
theorem bare_any (a : Option Addr) (n c : Nat) (x : Nat → Int) (w : World) (hn : n < 4294967296) (h : Num w a n c x) :
    Calls Tryd.prog 25 #[.slice a n c] w fun e w' => e = .returned (.slice a (sizeL x n) c) ∧ w = w' := by
  obtain ⟨h1, h2, h3, h4, h5⟩ := h
  rcases h5 with ⟨rfl, rfl⟩ | ⟨b, off, rfl, hbs, hc⟩
  · obtain rfl : n = 0 := by omega
    go_enter Tryd.func25, Tryd.ntmps25
    go_wp2
    go_loop [3] (fun t => t = .int .i64 0) (fun t => (intOf t).toNat)
    case atStart => rfl
    case round =>
      subst hrel
      go_wp2
      go_ret
      exact ⟨rfl, rfl⟩
  · unfold maxLen at h2
    clear h3 h4
    go_enter Tryd.func25, Tryd.ntmps25
    go_wp2
    go_loop [3] (fun t => ∃ k : Nat, k ≤ n ∧ sizeL x k = sizeL x n ∧ t = .int .i64 k) (fun t => (intOf t).toNat)
    case atStart => exact ⟨n, Nat.le_refl _, rfl, rfl⟩
    case round =>
      obtain ⟨k, hk, hs, rfl⟩ := hrel
      by_cases h0 : k = 0
      · subst h0
        have HS : Hid (sizeL x n = 0) := hs.symm
        clear hs hc
        go_wp2
        go_ret
        exact ⟨by rw [HS.out]; rfl, rfl⟩
      · obtain ⟨j, rfl⟩ : ∃ j, k = j + 1 := ⟨k - 1, by omega⟩
        have hcj := hc j (by omega)
        by_cases hzj : x j = 0
        · have HS : Hid (sizeL x j = sizeL x n) := by
            have : sizeL x (j + 1) = sizeL x j := by simp [sizeL, hzj]
            exact this.symm.trans hs
          clear hs hc
          go_wp2
          go_round
          case rel => exact ⟨j, by omega, HS.out, by go_num⟩
          case measure => simp [intOf]
        · have HS : Hid (sizeL x n = j + 1) := by
            have : sizeL x (j + 1) = j + 1 := by simp [sizeL, hzj]
            exact hs.symm.trans this
          clear hs hc
          go_wp2
          go_ret
          exact ⟨by rw [HS.out]; rfl, rfl⟩

theorem sizeL_zero {x : Nat → Int} : ∀ n, (∀ i, n ≤ i → x i = 0) → ∀ i, sizeL x n ≤ i → x i = 0
  | 0, h, i, _ => h i (Nat.zero_le _)
  | n + 1, h, i, hi => by
    by_cases hz : x n = 0
    · rw [show sizeL x (n + 1) = sizeL x n by simp [sizeL, hz]] at hi
      exact sizeL_zero n (fun j hj => if e : j = n then e ▸ hz else h j (by omega)) i hi
    · rw [show sizeL x (n + 1) = n + 1 by simp [sizeL, hz]] at hi
      exact h i hi
theorem sizeL_top {x : Nat → Int} : ∀ n, 0 < sizeL x n → x (sizeL x n - 1) ≠ 0
  | 0, h => by simp [sizeL] at h
  | n + 1, h => by
    by_cases hz : x n = 0
    · rw [show sizeL x (n + 1) = sizeL x n by simp [sizeL, hz]] at h ⊢
      exact sizeL_top n h
    · rw [show sizeL x (n + 1) = n + 1 by simp [sizeL, hz]]
      exact hz
theorem sizeL_sizeL (x : Nat → Int) : ∀ n, sizeL x (sizeL x n) = sizeL x n
  | 0 => rfl
  | n + 1 => by
    by_cases hz : x n = 0
    · rw [show sizeL x (n + 1) = sizeL x n by simp [sizeL, hz]]; exact sizeL_sizeL x n
    · have : sizeL x (n + 1) = n + 1 := by simp [sizeL, hz]
      rw [this]; exact this
theorem Num.bare {w : World} {a : Option Addr} {n c : Nat} {x : Nat → Int} (h : Num w a n c x) : Num w a (sizeL x n) c x := by
  obtain ⟨h1, h2, h3, h4, h5⟩ := h
  have hle := sizeL_le x n
  refine ⟨by omega, h2, h3, sizeL_zero n h4, ?_⟩
  rcases h5 with ⟨h, h'⟩ | ⟨b, off, h, hb, hc⟩
  · exact Or.inl ⟨h, h'⟩
  · exact Or.inr ⟨b, off, h, hb, fun i hi => hc i (by omega)⟩
theorem setRow_new (w : World) (cs ds : Array Value) (t : TypeId) : (w.alloc (.cells cs t)).setRow w.heap.size ds = w.alloc (.cells ds t) := World.setRow_alloc_new w cs ds t
theorem wl_get (x : Nat → Int) (k j : Nat) (v : Value) (h : (wl x k)[j]? = some v) : j < k ∧ v = .int .u64 (x j) := by
  have hj : j < k := by
    rcases Nat.lt_or_ge j k with h' | h'
    · exact h'
    · rw [List.getElem?_eq_none (by simpa [wl] using h')] at h; cases h
  refine ⟨hj, ?_⟩
  simpa [wl, hj] using h.symm
theorem copy_num {w : World} {a : Option Addr} {k c N C : Nat} {x : Nat → Int} (ty : TypeId) (h : Num w a k c x) (hN : k ≤ N) :
    (Builtin.copy_ #[22, 22] ty #[.slice (some ⟨w.heap.size, 0, none⟩) N C, .slice a k c]).run Tryd.prog (w.alloc (.cells (arrOf (fun _ => 0) N) 26)) = .ok (goInt k) (w.alloc (.cells (arrOf x N) 26)) := by
  obtain ⟨h1, h2, h3, h4, h5⟩ := h
  have hsz : (Tryd.prog.info? 26).map (·.size) = some 1 := by kernel_rfl
  rcases h5 with ⟨rfl, rfl⟩ | ⟨b, off, rfl, hb, hc⟩
  · obtain rfl : k = 0 := by omega
    rw [run_copy_none _ 22 22 ty 26 _ _ _ _ _ _ Tryd.underlying22 hsz (by simp)]
    have : arrOf (fun _ => 0) N = arrOf x N := arrOf_congr fun i _ => (h4 i (Nat.zero_le _)).symm
    rw [this]; rfl
  · have hl : (wl x k).length = k := by simp [wl]
    rw [run_copy_row _ _ 22 22 ty 26 w.heap.size 0 N C ⟨b, off, none⟩ k c (arrOf (fun _ => 0) N) 26 (wl x k) Tryd.underlying22 hsz (MapKept.heap_alloc w _).1 (by rw [hl]; exact (Nat.min_eq_left hN).symm) ?_ (by rw [hl, arrOf_size]; omega) ?_]
    · rw [hl, setRow_new]
      have : ((arrOf (fun _ => 0) N).toList.take 0 ++ wl x k ++ (arrOf (fun _ => 0) N).toList.drop (0 + k)).toArray = arrOf x N := by
        apply arrOf_of
        · simp [wl, arrOf]; omega
        · intro i hi
          by_cases hik : i < k
          · simp [wl, arrOf, List.getElem?_append, hik]
          · simp [wl, arrOf, List.getElem?_append, hik]
            rw [h4 i (by omega)]
            have : k + (i - k) = i := by omega
            simp [this, hi]
      rw [this]
    · intro j v hj
      obtain ⟨hjk, rfl⟩ := wl_get x k j v hj
      have ea : (⟨b, off, none⟩ : Addr).add j = ⟨b, off + j, none⟩ := by simp [Addr.add]
      rw [ea]
      exact ((below1 w _).cell (p := ⟨b, off + j, none⟩) hb).trans (hc j hjk)
    · intro v hv
      obtain ⟨q, _, rfl⟩ := List.mem_map.1 hv
      rfl

set_option maxHeartbeats 1000000 in
theorem ntrim_any (a : Option Addr) (n c : Nat) (x : Nat → Int) (w : World) (hn : n < 4294967296) (h : Num w a n c x) :
    Calls Tryd.prog 33 #[.slice a n c] w fun e w' => e = .returned (.slice (some ⟨w.heap.size, 0, none⟩) (sizeL x n) (sizeL x n)) ∧ w.alloc (.cells (arrOf x (sizeL x n)) 26) = w' := by
  have hb := bare_any a n c x w hn h
  have hle := sizeL_le x n
  have hmk := fun w => make_any (sizeL x n : Int) (sizeL x n) rfl (by omega) w
  have hcp := fun ty => copy_num (N := sizeL x n) (C := sizeL x n) ty h.bare (Nat.le_refl _)
  clear h
  generalize sizeL x n = s at *
  go_enter Tryd.func33, Tryd.ntmps33
  go_wp2_with (go_at_call 25; refine hb.mono ?_; rintro e w' ⟨rfl, rfl⟩)
  go_ret
  exact ⟨rfl, rfl⟩
end Go.Proofs.YtpfnfaekgaipjaaDoor
