/-
  Texts that the proof leans on.
-/
import Derived.Test.YtehgnckgmdkfmaaGreatDoorJ1
import Derived.Deep.RegionHeld3
import Derived.BigRegion
import Derived.Deep.DrawnRows
import Derived.Test.YtehgnckgmdkfmaaGreatDoorJ3
import Derived.Deep.Cut
import Derived.Deep.CutRange
import Derived.Laws.IdiomCopy
import Derived.Laws.CopyRow
import Derived.Deep.WholeRow
import Derived.Test.YtehgnckgmdkfmaaGreatDoorJ2
set_option linter.unusedVariables false
set_option linter.unusedSimpArgs false
set_option linter.unusedSectionVars false
set_option maxRecDepth 20000
namespace Go.Proofs.YtehgnckgmdkfmaaGreatDoor
open Go.RowKit
theorem made_zero (k : Nat) : madeCells (Value.int .u64 0).cells k = arrOf (fun _ => 0) k := by
  apply Array.ext
  · simp [madeCells]
  · intro i h1 h2
    rw [arrOf_get]
    simp [madeCells, Value.cells, Nat.mod_one]
theorem make_any (L : Int) (k : Nat) (hL : L = k) (hk : k < 8589934592) (w : World) : (Instr.makeSlice 45 (.int .i64 L) (.int .i64 L)).run Tryz.prog w = .ok (.slice (some ⟨w.heap.size, 0, none⟩) k k) (w.alloc (.cells (arrOf (fun _ => 0) k) 22)) := by
  obtain ⟨i0, hi, hz0, hz1, hz2⟩ := info_parts Tryz.info22
  rw [run_make w 45 22 i0 (.int .u64 0) Tryz.underlying45 hi hz0 .i64 .i64 L L (by omega) (by omega) (by rw [hz2]; omega) (by omega)]
  have e1 : L.toNat = k := by omega
  rw [e1, hz1, Nat.mul_one, made_zero]
theorem num_of_block {w : World} {k : Nat} {x : Nat → Int} {ss : Array Value} (hk : k < 8589934592) (hx : Words x) (hz : ∀ i, k ≤ i → x i = 0) (hsz : ss.size = k) (hss : ∀ j h, ss[j]'h = Value.int .u64 (x j)) : Num (w.alloc (.cells ss 22)) (some ⟨w.heap.size, 0, none⟩) k k x := by
  refine ⟨Nat.le_refl _, by unfold maxLen; omega, hx, hz, Or.inr ⟨w.heap.size, 0, rfl, by simp, fun i hi => ?_⟩⟩
  rw [Nat.zero_add, World.cell?_alloc_new, Array.getElem?_eq_getElem (by omega), hss i (by omega)]
theorem below1 (w : World) (o : Obj) : Below w.heap.size w (w.alloc o) := (Below.refl _ _).alloc (Nat.le_refl _) _

theorem sumW_words (x y : Nat → Int) : Words (sumW x y) := fun i => ⟨Int.emod_nonneg _ (by decide), by have := Int.emod_lt_of_pos (x i + y i + carryW x y i) (b := 18446744073709551616) (by decide); unfold sumW; omega⟩
theorem difW_words (x y : Nat → Int) : Words (difW x y) := fun i => ⟨Int.emod_nonneg _ (by decide), by have := Int.emod_lt_of_pos (x i - y i - borW x y i) (b := 18446744073709551616) (by decide); unfold difW; omega⟩
section
attribute [local go_sem ↓] Go.wp_at_zero Go.wp_at_succ
attribute [local go_sem] setCell_drewN alloc_drewN

/-- 'or' of two words -/
def orW (a b : Int) : Int := bits BinOp.or IntKind.u64 a b
theorem orW_eq (a b : Int) (ha : 0 ≤ a ∧ a ≤ 18446744073709551615) (hb : 0 ≤ b ∧ b ≤ 18446744073709551615) : orW a b = ((a.toNat ||| b.toNat : Nat) : Int) := u64_or a b ha.1 (by omega) hb.1 (by omega)
theorem orW_comm (a b : Int) (ha : 0 ≤ a ∧ a ≤ 18446744073709551615) (hb : 0 ≤ b ∧ b ≤ 18446744073709551615) : orW a b = orW b a := by
  rw [orW_eq a b ha hb, orW_eq b a hb ha, Nat.or_comm]
theorem orW_zero (a : Int) (ha : 0 ≤ a ∧ a ≤ 18446744073709551615) : orW a 0 = a := by
  rw [orW_eq a 0 ha (by decide)]; simp; omega
theorem zero_orW (a : Int) (ha : 0 ≤ a ∧ a ≤ 18446744073709551615) : orW 0 a = a := by
  rw [orW_eq 0 a (by decide) ha]; simp; omega
theorem orW_word (a b : Int) (ha : 0 ≤ a ∧ a ≤ 18446744073709551615) (hb : 0 ≤ b ∧ b ≤ 18446744073709551615) : 0 ≤ orW a b ∧ orW a b ≤ 18446744073709551615 := by
  rw [orW_eq a b ha hb]
  have : a.toNat ||| b.toNat < 2 ^ 64 := Nat.or_lt_two_pow (by omega) (by omega)
  omega
theorem wrap_word (a : Int) : 0 ≤ IntKind.u64.wrap a ∧ IntKind.u64.wrap a ≤ 18446744073709551615 := by
  simp only [IntKind.wrap, IntKind.bits, IntKind.signed]
  have h1 := Int.emod_nonneg a (b := 18446744073709551616) (by decide)
  have h2 := Int.emod_lt_of_pos a (b := 18446744073709551616) (by decide)
  simp; omega
theorem wrap_id (a : Int) (ha : 0 ≤ a ∧ a ≤ 18446744073709551615) : IntKind.u64.wrap a = a := by
  simp only [IntKind.wrap, IntKind.bits, IntKind.signed]
  simp; omega
theorem div_word (a : Int) (e : Nat) (ha : 0 ≤ a ∧ a ≤ 18446744073709551615) : 0 ≤ a / 2 ^ e ∧ a / 2 ^ e ≤ 18446744073709551615 := by
  have hp : (0 : Int) < 2 ^ e := Int.pow_pos (by decide)
  have h1 := Int.ediv_nonneg ha.1 (Int.le_of_lt hp)
  have h2 := Int.ediv_le_self (2 ^ e) ha.1
  omega

/-- the bits that come in from the word below -/
def lowp (x : Nat → Int) (q r j : Nat) : Int := if q + 1 ≤ j ∧ 0 < r then x (j - q - 1) / 2 ^ (64 - r) else 0
/-- the words of x times 2^(64 q + r) -/
def finL (x : Nat → Int) (q r j : Nat) : Int := if q ≤ j then orW (lowp x q r j) (IntKind.u64.wrap (x (j - q) * 2 ^ r)) else 0
theorem lowp_word {x : Nat → Int} (hx : Words x) (q r j : Nat) : 0 ≤ lowp x q r j ∧ lowp x q r j ≤ 18446744073709551615 := by
  unfold lowp; split
  · exact div_word _ _ (hx _)
  · decide
theorem finL_words {x : Nat → Int} (hx : Words x) (q r : Nat) : Words (finL x q r) := fun j => by
  unfold finL; split
  · exact orW_word _ _ (lowp_word hx q r j) (wrap_word _)
  · decide
end
/-- the words of x divided by 2^(64 q + r) -/
def shrW (x : Nat → Int) (q r j : Nat) : Int := if r = 0 then x (q + j) else orW (x (q + j) / 2 ^ r) (IntKind.u64.wrap (x (q + j + 1) * 2 ^ (64 - r)))
theorem shrW_words {x : Nat → Int} (hx : Words x) (q r : Nat) : Words (shrW x q r) := fun j => by
  unfold shrW; split
  · exact hx _
  · exact orW_word _ _ (div_word _ _ (hx _)) (wrap_word _)
theorem shrW_zero {x : Nat → Int} {n : Nat} (zx : ∀ i, n ≤ i → x i = 0) (q r j : Nat) (hj : n ≤ q + j) : shrW x q r j = 0 := by
  unfold shrW; split
  · exact zx _ hj
  · rw [zx _ hj, zx (q + j + 1) (by omega), Int.zero_mul, Int.zero_ediv, wrap_id 0 (by decide), orW_zero 0 (by decide)]
def wl (f : Nat → Int) (k : Nat) : List Value := (List.range k).map fun i => Value.int .u64 (f i)
theorem wl_succ (f : Nat → Int) (k : Nat) : wl f k ++ [Value.int .u64 (f k)] = wl f (k + 1) := by simp [wl, List.range_succ]
theorem num_of_owns' {w' : World} {ao : Option Addr} {k cap base : Nat} {x : Nat → Int} (hx : Words x) (hz : ∀ i, k ≤ i → x i = 0) (h : w'.ownsRow base 22 1 (.slice ao k cap) k (wl x k)) : Num w' ao k cap x := by
  have h0 := h
  obtain ⟨hl, h1⟩ := h0
  rcases h1 with ⟨h1, h2⟩ | ⟨g, cap', cur, he, hb, hh, _⟩
  · cases h1
    exact ⟨Nat.le_refl _, by unfold maxLen; omega, hx, hz, Or.inl ⟨rfl, rfl⟩⟩
  · cases he
    exact num_of_owns (w := w') hx hz h (by
      rcases Nat.lt_or_ge g w'.heap.size with h3 | h3
      · exact h3
      · rw [Array.getElem?_eq_none h3] at hh; cases hh)
section
/-- the words below q -/
def lowW (x : Nat → Int) (q i : Nat) : Int := if i < q then x i else 0
theorem lowW_words {x : Nat → Int} (hx : Words x) (q : Nat) : Words (lowW x q) := fun i => by unfold lowW; split; exact hx i; decide
set_option maxHeartbeats 1000000 in
def oneW (c : Int) (j : Nat) : Int := if j = 0 then c else 0
theorem num_one (w : World) (c : Int) (hc : 0 ≤ c ∧ c ≤ 18446744073709551615) : Num (w.alloc (.cells #[.int .u64 c] 22)) (some ⟨w.heap.size, 0, none⟩) 1 1 (oneW c) :=
  num_of_block (by omega) (fun i => by unfold oneW; split; exact hc; decide) (fun i hi => by unfold oneW; rw [if_neg (by omega)]) rfl (fun j hj => match j, hj with | 0, _ => rfl)
end
section
attribute [local go_sem] setCell_drewN alloc_drewN

theorem upd_words {z : Nat → Int} {p : Nat} {v : Int} (hz : Words z) (hv : 0 ≤ v ∧ v ≤ 18446744073709551615) : Words (fun j => if j = p then v else z j) := fun i => by
  show 0 ≤ (if i = p then v else z i) ∧ (if i = p then v else z i) ≤ _
  split
  · exact hv
  · exact hz i
end
/-- the words of x lie in block g -/
def HasN (g n : Nat) (x : Nat → Int) (w : World) : Prop := g < w.heap.size ∧ ∀ i, i < n → w.cell? ⟨g, i, none⟩ = some (.int .u64 (x i))
theorem HasN.next {g n : Nat} {x : Nat → Int} {w w' : World} (h : HasN g n x w) (hb : Below w.heap.size w w') : HasN g n x w' :=
  ⟨Nat.lt_of_lt_of_le h.1 hb.size, fun i hi => (hb.cell (p := ⟨g, i, none⟩) h.1).trans (h.2 i hi)⟩
theorem HasN.of_alloc (w : World) (cs : Array Value) (t : TypeId) (n : Nat) (x : Nat → Int) (h : ∀ i, i < n → cs[i]? = some (.int .u64 (x i))) : HasN w.heap.size n x (w.alloc (.cells cs t)) :=
  ⟨by simp, fun i hi => by rw [World.cell?_alloc_new]; exact h i hi⟩
theorem HasN.num {g n c m : Nat} {x : Nat → Int} {w : World} (h : HasN g m x w) (hx : Words x) (hn : n ≤ m) (hc : n ≤ c) (hcm : c ≤ maxLen) : Num w (some ⟨g, 0, none⟩) n c (lowW x n) :=
  ⟨hc, hcm, lowW_words hx n, fun i hi => by unfold lowW; rw [if_neg (by omega)], Or.inr ⟨g, 0, rfl, h.1, fun i hi => by rw [Nat.zero_add, h.2 i (by omega)]; unfold lowW; rw [if_pos hi]⟩⟩

/-- all the blocks of the list stand; nothing elder than the call has turned -/
def KP (w0 : World) (l : List (Nat × Nat × (Nat → Int))) (w : World) : Prop := Below w0.heap.size w0 w ∧ ∀ e ∈ l, HasN e.1 e.2.1 e.2.2 w
theorem KP.next {w0 : World} {l : List (Nat × Nat × (Nat → Int))} {w w' : World} (h : KP w0 l w) (hb : Below w.heap.size w w') : KP w0 l w' := ⟨h.1.trans (hb.mono h.1.size), fun e he => (h.2 e he).next hb⟩
theorem KP.drew {w0 : World} {l : List (Nat × Nat × (Nat → Int))} {w : World} (h : KP w0 l w) : KP w0 l w.drew := ⟨h.1.drew, h.2⟩
theorem KP.alloc {w0 : World} {l : List (Nat × Nat × (Nat → Int))} {w : World} (h : KP w0 l w) (o : Obj) : KP w0 l (w.alloc o) := h.next (below1 w o)
theorem KP.setg {w0 : World} {l : List (Nat × Nat × (Nat → Int))} {w wg : World} (h : KP w0 l w) (hg : KP w0 l wg) (i : Nat) (v : Value) : KP w0 l (w.setCell ⟨wg.heap.size, i, none⟩ v) := by
  refine ⟨h.1.setCell hg.1.size v, fun e he => ?_⟩
  have h1 := h.2 e he
  have h2 := (hg.2 e he).1
  have hb : Below (e.1 + 1) w (w.setCell ⟨wg.heap.size, i, none⟩ v) := (Below.refl _ _).setCell (by show e.1 + 1 ≤ wg.heap.size; omega) v
  exact ⟨Nat.lt_of_lt_of_le h1.1 hb.size, fun j hj => (hb.cell (p := ⟨e.1, j, none⟩) (by show e.1 < e.1 + 1; omega)).trans (h1.2 j hj)⟩
theorem KP.cons {w0 : World} {l : List (Nat × Nat × (Nat → Int))} {w : World} (h : KP w0 l w) {g n : Nat} {x : Nat → Int} (hg : HasN g n x w) : KP w0 ((g, n, x) :: l) w := ⟨h.1, fun e he => by
  rcases List.mem_cons.1 he with rfl | he
  · exact hg
  · exact h.2 e he⟩
theorem KP.at {w0 : World} {l : List (Nat × Nat × (Nat → Int))} {w : World} (h : KP w0 l w) {g n : Nat} {x : Nat → Int} (hm : (g, n, x) ∈ l) : HasN g n x w := h.2 _ hm
theorem KP.new {w0 : World} {l : List (Nat × Nat × (Nat → Int))} {w : World} (h : KP w0 l w) (cs : Array Value) (t : TypeId) (n : Nat) (x : Nat → Int) (hc : ∀ i, i < n → cs[i]? = some (.int .u64 (x i))) : KP w0 ((w.heap.size, n, x) :: l) (w.alloc (.cells cs t)) :=
  (h.alloc _).cons (HasN.of_alloc w cs t n x hc)
/-- n cells of a block that was made some time ago, written one by one -/
def putN (w : World) (g : Nat) (x : Nat → Int) : Nat → World
  | 0 => w
  | n + 1 => (putN w g x n).setCell ⟨g, n, none⟩ (.int .u64 (x n))
theorem putN_kp {w0 : World} {l : List (Nat × Nat × (Nat → Int))} {w wg : World} (h : KP w0 l w) (hg : KP w0 l wg) (x : Nat → Int) : ∀ n, KP w0 l (putN w wg.heap.size x n)
  | 0 => h
  | n + 1 => (putN_kp h hg x n).setg hg n _
theorem putN_size (w : World) (g : Nat) (x : Nat → Int) : ∀ n, w.heap.size ≤ (putN w g x n).heap.size
  | 0 => Nat.le_refl _
  | n + 1 => Nat.le_trans (putN_size w g x n) ((Below.refl 0 _).setCell (Nat.zero_le _) _ : Below 0 _ _).size
theorem putN_cell (w : World) (g N : Nat) (x : Nat → Int) (hc : ∀ i, i < N → (w.cell? ⟨g, i, none⟩).isSome = true) : ∀ n, n ≤ N → ∀ i, i < N → (putN w g x n).cell? ⟨g, i, none⟩ = if i < n then some (.int .u64 (x i)) else w.cell? ⟨g, i, none⟩
  | 0, _, i, _ => by rw [if_neg (by omega)]; rfl
  | n + 1, hn, i, hi => by
    have ih := putN_cell w g N x hc n (by omega)
    show ((putN w g x n).setCell ⟨g, n, none⟩ (.int .u64 (x n))).cell? ⟨g, i, none⟩ = _
    by_cases e : i = n
    · subst e
      rw [if_pos (by omega)]
      have := ih i hi
      rw [if_neg (by omega)] at this
      exact World.cell?_setCell_same' _ _ _ (by rw [this]; exact hc i hi)
    · have hne : (⟨g, n, none⟩ : Addr) ≠ ⟨g, i, none⟩ := by intro h; injection h with h1 h2; exact e h2.symm
      refine Eq.trans (World.cell?_setCell_other (h := hne) ..) ?_
      rw [ih i hi]
      by_cases e2 : i < n
      · rw [if_pos e2, if_pos (by omega)]
      · rw [if_neg e2, if_neg (by omega)]
theorem KP.put {w0 : World} {l : List (Nat × Nat × (Nat → Int))} {w wg : World} (h : KP w0 l w) (hg : KP w0 l wg) (hlt : wg.heap.size < w.heap.size) (x : Nat → Int) (n : Nat) (hc : ∀ i, i < n → (w.cell? ⟨wg.heap.size, i, none⟩).isSome = true) : KP w0 ((wg.heap.size, n, x) :: l) (putN w wg.heap.size x n) :=
  (putN_kp h hg x n).cons ⟨Nat.lt_of_lt_of_le hlt (putN_size w _ x n), fun i hi => by rw [putN_cell w wg.heap.size n x hc n (Nat.le_refl _) i hi, if_pos hi]⟩
section
set_option maxHeartbeats 400000 in
theorem bare_any (a : Option Addr) (n c : Nat) (x : Nat → Int) (w : World) (hn : n < 4294967296) (h : Num w a n c x) :
    Calls Tryz.prog 28 #[.slice a n c] w fun e w' => e = .returned (.slice a (sizeL x n) c) ∧ w = w' := by
  obtain ⟨h1, h2, h3, h4, h5⟩ := h
  rcases h5 with ⟨rfl, rfl⟩ | ⟨b, off, rfl, hbs, hc⟩
  · obtain rfl : n = 0 := by omega
    go_enter Tryz.func28, Tryz.ntmps28
    go_wp2
    go_loop [3] (fun t => t = .int .i64 0) (fun t => (intOf t).toNat)
    case atStart => rfl
    case round =>
      subst hrel
      go_wp2
      go_ret
      exact ⟨rfl, rfl⟩
  · unfold maxLen at h2
    clear h3 h4
    go_enter Tryz.func28, Tryz.ntmps28
    go_wp2
    go_loop [3] (fun t => ∃ k : Nat, k ≤ n ∧ sizeL x k = sizeL x n ∧ t = .int .i64 k) (fun t => (intOf t).toNat)
    case atStart => exact ⟨n, Nat.le_refl _, rfl, rfl⟩
    case round =>
      obtain ⟨k, hk, hs, rfl⟩ := hrel
      by_cases h0 : k = 0
      · subst h0
        have HS : Hid (sizeL x n = 0) := hs.symm
        clear hs hc
        go_wp2
        go_ret
        exact ⟨by rw [HS.out]; rfl, rfl⟩
      · obtain ⟨j, rfl⟩ : ∃ j, k = j + 1 := ⟨k - 1, by omega⟩
        have hcj := hc j (by omega)
        by_cases hzj : x j = 0
        · have HS : Hid (sizeL x j = sizeL x n) := by
            have : sizeL x (j + 1) = sizeL x j := by simp [sizeL, hzj]
            exact this.symm.trans hs
          clear hs hc
          go_wp2
          go_round
          case rel => exact ⟨j, by omega, HS.out, by go_num⟩
          case measure => simp [intOf]
        · have HS : Hid (sizeL x n = j + 1) := by
            have : sizeL x (j + 1) = j + 1 := by simp [sizeL, hzj]
            exact hs.symm.trans this
          clear hs hc
          go_wp2
          go_ret
          exact ⟨by rw [HS.out]; rfl, rfl⟩

theorem sizeL_zero {x : Nat → Int} : ∀ n, (∀ i, n ≤ i → x i = 0) → ∀ i, sizeL x n ≤ i → x i = 0
  | 0, h, i, _ => h i (Nat.zero_le _)
  | n + 1, h, i, hi => by
    by_cases hz : x n = 0
    · rw [show sizeL x (n + 1) = sizeL x n by simp [sizeL, hz]] at hi
      exact sizeL_zero n (fun j hj => if e : j = n then e ▸ hz else h j (by omega)) i hi
    · rw [show sizeL x (n + 1) = n + 1 by simp [sizeL, hz]] at hi
      exact h i hi
theorem sizeL_top {x : Nat → Int} : ∀ n, 0 < sizeL x n → x (sizeL x n - 1) ≠ 0
  | 0, h => by simp [sizeL] at h
  | n + 1, h => by
    by_cases hz : x n = 0
    · rw [show sizeL x (n + 1) = sizeL x n by simp [sizeL, hz]] at h ⊢
      exact sizeL_top n h
    · rw [show sizeL x (n + 1) = n + 1 by simp [sizeL, hz]]
      exact hz
theorem sizeL_sizeL (x : Nat → Int) : ∀ n, sizeL x (sizeL x n) = sizeL x n
  | 0 => rfl
  | n + 1 => by
    by_cases hz : x n = 0
    · rw [show sizeL x (n + 1) = sizeL x n by simp [sizeL, hz]]; exact sizeL_sizeL x n
    · have : sizeL x (n + 1) = n + 1 := by simp [sizeL, hz]
      rw [this]; exact this
theorem Num.bare {w : World} {a : Option Addr} {n c : Nat} {x : Nat → Int} (h : Num w a n c x) : Num w a (sizeL x n) c x := by
  obtain ⟨h1, h2, h3, h4, h5⟩ := h
  have hle := sizeL_le x n
  refine ⟨by omega, h2, h3, sizeL_zero n h4, ?_⟩
  rcases h5 with ⟨h, h'⟩ | ⟨b, off, h, hb, hc⟩
  · exact Or.inl ⟨h, h'⟩
  · exact Or.inr ⟨b, off, h, hb, fun i hi => hc i (by omega)⟩
theorem setRow_new (w : World) (cs ds : Array Value) (t : TypeId) : (w.alloc (.cells cs t)).setRow w.heap.size ds = w.alloc (.cells ds t) := World.setRow_alloc_new w cs ds t
theorem wl_get (x : Nat → Int) (k j : Nat) (v : Value) (h : (wl x k)[j]? = some v) : j < k ∧ v = .int .u64 (x j) := by
  have hj : j < k := by
    rcases Nat.lt_or_ge j k with h' | h'
    · exact h'
    · rw [List.getElem?_eq_none (by simpa [wl] using h')] at h; cases h
  refine ⟨hj, ?_⟩
  simpa [wl, hj] using h.symm
theorem copy_num {w : World} {a : Option Addr} {k c N C : Nat} {x : Nat → Int} (ty : TypeId) (h : Num w a k c x) (hN : k ≤ N) :
    (Builtin.copy_ #[45, 45] ty #[.slice (some ⟨w.heap.size, 0, none⟩) N C, .slice a k c]).run Tryz.prog (w.alloc (.cells (arrOf (fun _ => 0) N) 22)) = .ok (goInt k) (w.alloc (.cells (arrOf x N) 22)) := by
  obtain ⟨h1, h2, h3, h4, h5⟩ := h
  have hsz : (Tryz.prog.info? 22).map (·.size) = some 1 := by kernel_rfl
  rcases h5 with ⟨rfl, rfl⟩ | ⟨b, off, rfl, hb, hc⟩
  · obtain rfl : k = 0 := by omega
    rw [run_copy_none _ 45 45 ty 22 _ _ _ _ _ _ Tryz.underlying45 hsz (by simp)]
    have : arrOf (fun _ => 0) N = arrOf x N := arrOf_congr fun i _ => (h4 i (Nat.zero_le _)).symm
    rw [this]; rfl
  · have hl : (wl x k).length = k := by simp [wl]
    rw [run_copy_row _ _ 45 45 ty 22 w.heap.size 0 N C ⟨b, off, none⟩ k c (arrOf (fun _ => 0) N) 22 (wl x k) Tryz.underlying45 hsz (MapKept.heap_alloc w _).1 (by rw [hl]; exact (Nat.min_eq_left hN).symm) ?_ (by rw [hl, arrOf_size]; omega) ?_]
    · rw [hl, setRow_new]
      have : ((arrOf (fun _ => 0) N).toList.take 0 ++ wl x k ++ (arrOf (fun _ => 0) N).toList.drop (0 + k)).toArray = arrOf x N := by
        apply arrOf_of
        · simp [wl, arrOf]; omega
        · intro i hi
          by_cases hik : i < k
          · simp [wl, arrOf, List.getElem?_append, hik]
          · simp [wl, arrOf, List.getElem?_append, hik]
            rw [h4 i (by omega)]
            have : k + (i - k) = i := by omega
            simp [this, hi]
      rw [this]
    · intro j v hj
      obtain ⟨hjk, rfl⟩ := wl_get x k j v hj
      have ea : (⟨b, off, none⟩ : Addr).add j = ⟨b, off + j, none⟩ := by simp [Addr.add]
      rw [ea]
      exact ((below1 w _).cell (p := ⟨b, off + j, none⟩) hb).trans (hc j hjk)
    · intro v hv
      obtain ⟨q, _, rfl⟩ := List.mem_map.1 hv
      rfl

set_option maxHeartbeats 1000000 in
theorem ntrim_any (a : Option Addr) (n c : Nat) (x : Nat → Int) (w : World) (hn : n < 4294967296) (h : Num w a n c x) :
    Calls Tryz.prog 29 #[.slice a n c] w fun e w' => e = .returned (.slice (some ⟨w.heap.size, 0, none⟩) (sizeL x n) (sizeL x n)) ∧ w.alloc (.cells (arrOf x (sizeL x n)) 22) = w' := by
  have hb := bare_any a n c x w hn h
  have hle := sizeL_le x n
  have hmk := fun w => make_any (sizeL x n : Int) (sizeL x n) rfl (by omega) w
  have hcp := fun ty => copy_num (N := sizeL x n) (C := sizeL x n) ty h.bare (Nat.le_refl _)
  clear h
  generalize sizeL x n = s at *
  go_enter Tryz.func29, Tryz.ntmps29
  go_wp2_with (go_at_call 28; refine hb.mono ?_; rintro e w' ⟨rfl, rfl⟩)
  go_ret
  exact ⟨rfl, rfl⟩
end
section
attribute [local go_sem ↓] Go.wp_at_zero Go.wp_at_succ
attribute [local go_sem] setCell_drewN alloc_drewN

theorem limAdd4 (x y : Nat → Int) (w : World) (hx : Words x) (hy : Words y) :
    Calls Tryz.prog 50 #[.agg (arrOf x 4), .agg (arrOf y 4)] w fun e w' => e = .returned (.tuple #[.agg (arrOf (sumW x y) 4), .int .u64 (carryW x y 4)]) ∧ Below w.heap.size w w' := by
  have sx : (arrOf x 4).size = 4 := arrOf_size x 4
  have sy : (arrOf y 4).size = 4 := arrOf_size y 4
  have gx := fun i h => arrOf_get x 4 i h
  have gy := fun i h => arrOf_get y 4 i h
  generalize arrOf x 4 = ax at *
  generalize arrOf y 4 = ay at *
  go_enter Tryz.func50, Tryz.ntmps50
  go_wp2
  go_loopw [7, 8, 11, 14] (fun c u8 i u14 wr => ∃ (k m : Nat) (ss : Array Value), k ≤ 4 ∧ i = .int .i64 k ∧ c = .int .u64 (carryW x y k) ∧ ss.size = 4 ∧ (∀ j h, ss[j]'h = Value.int .u64 (if j < k then sumW x y j else 0)) ∧ wr = (((((w.alloc (.cells ax 23)).alloc (.cells ay 23)).alloc (.cells #[.int .u64 0, .int .u64 0, .int .u64 0, .int .u64 0] 23)).alloc (.cells ss 23)).drewN m)) (fun _ _ i _ _ => 4 - (intOf i).toNat)
  case atStart => exact ⟨0, 0, _, Nat.zero_le _, rfl, rfl, rfl, by intro j h; have h' : j < 4 := h; match j, h' with | 0, _ => rfl | 1, _ => rfl | 2, _ => rfl | 3, _ => rfl, rfl⟩
  case round =>
    obtain ⟨k, m, ss, hk, rfl, rfl, hsz, hss, rfl⟩ := hrel
    have hcar := carryW_01 hx hy k
    by_cases h8 : k < 4
    · have h8i : (k : Int) < 4 := by omega
      have h8s : k < ss.size := by omega
      have bx := hx k
      have b_y := hy k
      have hcx : (ax[k]'(by omega)) = .int .u64 (x k) := gx k _
      have hcy : (ay[k]'(by omega)) = .int .u64 (y k) := gy k _
      have hadd := fun w => add64 (x k) (y k) (carryW x y k) bx.1 b_y.1 hcar.1 hcar.2 w
      go_wp2
      go_region_held3 (fun w' => w'.cell? ⟨w.heap.size, k, none⟩ = some (.int .u64 (x k)) ∧ w'.cell? ⟨w.heap.size + 1, k, none⟩ = some (.int .u64 (y k))) ((simp [go_sem, hcx, hcy, sx, sy, h8])) (fail)
      go_wp2
      go_roundw
      case rel => exact ⟨k + 1, m + 1, ss.setIfInBounds k (.int .u64 (sumW x y k)), by omega, by go_num, rfl, by simp [hsz], set_next hss, rfl⟩
      case measure => simp [intOf]; omega
    · obtain rfl : k = 4 := by omega
      have hss' : ∀ j h, ss[j]'h = Value.int .u64 (sumW x y j) := by
        intro j h; rw [hss j h, if_pos (by omega)]
      clear hss
      go_wp2
      exact bodyPost_ret (v := .tuple #[.agg (arrOf (sumW x y) 4), .int .u64 (carryW x y 4)]) (by simp [results, Tryz.results50, go_sem]; rfl) rfl ⟨rfl, below_alloc4 _ _ _ _ _ _⟩

theorem limSub4 (x y : Nat → Int) (w : World) (hx : Words x) (hy : Words y) :
    Calls Tryz.prog 74 #[.agg (arrOf x 4), .agg (arrOf y 4)] w fun e w' => e = .returned (.tuple #[.agg (arrOf (difW x y) 4), .int .u64 (borW x y 4)]) ∧ Below w.heap.size w w' := by
  have sx : (arrOf x 4).size = 4 := arrOf_size x 4
  have sy : (arrOf y 4).size = 4 := arrOf_size y 4
  have gx := fun i h => arrOf_get x 4 i h
  have gy := fun i h => arrOf_get y 4 i h
  generalize arrOf x 4 = ax at *
  generalize arrOf y 4 = ay at *
  go_enter Tryz.func74, Tryz.ntmps74
  go_wp2
  go_loopw [7, 8, 11, 14] (fun c u8 i u14 wr => ∃ (k m : Nat) (ss : Array Value), k ≤ 4 ∧ i = .int .i64 k ∧ c = .int .u64 (borW x y k) ∧ ss.size = 4 ∧ (∀ j h, ss[j]'h = Value.int .u64 (if j < k then difW x y j else 0)) ∧ wr = (((((w.alloc (.cells ax 23)).alloc (.cells ay 23)).alloc (.cells #[.int .u64 0, .int .u64 0, .int .u64 0, .int .u64 0] 23)).alloc (.cells ss 23)).drewN m)) (fun _ _ i _ _ => 4 - (intOf i).toNat)
  case atStart => exact ⟨0, 0, _, Nat.zero_le _, rfl, rfl, rfl, by intro j h; have h' : j < 4 := h; match j, h' with | 0, _ => rfl | 1, _ => rfl | 2, _ => rfl | 3, _ => rfl, rfl⟩
  case round =>
    obtain ⟨k, m, ss, hk, rfl, rfl, hsz, hss, rfl⟩ := hrel
    have hcar := borW_01 x y k
    by_cases h8 : k < 4
    · have h8i : (k : Int) < 4 := by omega
      have h8s : k < ss.size := by omega
      have bx := hx k
      have b_y := hy k
      have hcx : (ax[k]'(by omega)) = .int .u64 (x k) := gx k _
      have hcy : (ay[k]'(by omega)) = .int .u64 (y k) := gy k _
      have hadd := fun w => sub64 (x k) (y k) (borW x y k) bx.1 b_y.1 (by omega) hcar.1 hcar.2 w
      go_wp2
      go_region_held3 (fun w' => w'.cell? ⟨w.heap.size, k, none⟩ = some (.int .u64 (x k)) ∧ w'.cell? ⟨w.heap.size + 1, k, none⟩ = some (.int .u64 (y k))) ((simp [go_sem, hcx, hcy, sx, sy, h8])) (fail)
      go_wp2
      go_roundw
      case rel => exact ⟨k + 1, m + 1, ss.setIfInBounds k (.int .u64 (difW x y k)), by omega, by go_num, rfl, by simp [hsz], set_next hss, rfl⟩
      case measure => simp [intOf]; omega
    · obtain rfl : k = 4 := by omega
      have hss' : ∀ j h, ss[j]'h = Value.int .u64 (difW x y j) := by
        intro j h; rw [hss j h, if_pos (by omega)]
      clear hss
      go_wp2
      exact bodyPost_ret (v := .tuple #[.agg (arrOf (difW x y) 4), .int .u64 (borW x y 4)]) (by simp [results, Tryz.results74, go_sem]; rfl) rfl ⟨rfl, below_alloc4 _ _ _ _ _ _⟩

def shlL (x : Nat → Int) (q r j : Nat) : Int := if q ≤ j then (if q < j then bits BinOp.or IntKind.u64 (IntKind.u64.wrap (x (j - q) * 2 ^ r)) (x (j - q - 1) / 2 ^ (64 - r)) else IntKind.u64.wrap (x (j - q) * 2 ^ r)) else 0
def shrL (x : Nat → Int) (q r n j : Nat) : Int := if q + j < n then (if q + j + 1 < n then bits BinOp.or IntKind.u64 (x (q + j) / 2 ^ r) (IntKind.u64.wrap (x (q + j + 1) * 2 ^ (64 - r))) else x (q + j) / 2 ^ r) else 0

theorem limShl4 (x : Nat → Int) (n : Int) (q r : Nat) (w : World) (hx : Words x) (hn : 1 ≤ n) (hn2 : n ≤ 9223372036854775807) (hq : n / 64 = q) (hr : n % 64 = r) (hr6 : r < 64) :
    Calls Tryz.prog 55 #[.agg (arrOf x 4), .int .i64 n] w fun e w' => e = .returned (.agg (arrOf (shlL x q r) 4)) ∧ Below w.heap.size w w' := by
  have sx : (arrOf x 4).size = 4 := arrOf_size x 4
  have gx := fun i h => arrOf_get x 4 i h
  generalize arrOf x 4 = ax at *
  have hn1 : ¬ n < 1 := by omega
  go_enter Tryz.func55, Tryz.ntmps55
  go_wp2
  go_loopw [8] (fun i wr => ∃ (j m : Nat) (ss : Array Value), q ≤ j ∧ i = .int .i64 j ∧ (j ≤ 4 ∨ j = q) ∧ ss.size = 4 ∧ (∀ k h, ss[k]'h = Value.int .u64 (if k < j then shlL x q r k else 0)) ∧ wr = ((((w.alloc (.cells ax 23)).alloc (.cells #[.int .u64 0, .int .u64 0, .int .u64 0, .int .u64 0] 23)).alloc (.cells ss 23)).drewN m)) (fun i _ => 4 - (intOf i).toNat)
  case atStart => exact ⟨q, 0, _, Nat.le_refl _, rfl, Or.inr rfl, rfl, by intro k h; have h' : k < 4 := h; by_cases e : k < q; (rw [if_pos e]; unfold shlL; rw [if_neg (by omega)]; match k, h' with | 0, _ => rfl | 1, _ => rfl | 2, _ => rfl | 3, _ => rfl); (rw [if_neg e]; match k, h' with | 0, _ => rfl | 1, _ => rfl | 2, _ => rfl | 3, _ => rfl), rfl⟩
  case round =>
    obtain ⟨j, m, ss, hqj, rfl, hj, hsz, hss, rfl⟩ := hrel
    by_cases h8 : j < 4
    · have h8i : (j : Int) < 4 := by omega
      have h8s : j < ss.size := by omega
      have hqi : (q : Int) ≤ j := by omega
      have e1 : ((j : Int) - q).toNat = j - q := by omega
      have hlt : (j : Int) - q < 4 := by omega
      have hge : 0 ≤ (j : Int) - q := by omega
      have bx := hx (j - q)
      have hcx : ax[j - q]? = some (.int .u64 (x (j - q))) := by rw [Array.getElem?_eq_getElem (by omega), gx _ (by omega)]
      have hsk : ss[j]? = some (.int .u64 0) := by rw [Array.getElem?_eq_getElem h8s, hss j h8s, if_neg (by omega)]
      have HR : Hid (∀ (i : Nat) (h : i < (ss.setIfInBounds j (.int .u64 (shlL x q r j))).size), (ss.setIfInBounds j (.int .u64 (shlL x q r j)))[i]'h = Value.int .u64 (if i < j + 1 then shlL x q r i else 0)) := set_next hss
      by_cases hqq : q < j
      · have hqq' : (q : Int) < j := by omega
        have e2 : ((j : Int) - q - 1).toNat = j - q - 1 := by omega
        have hlt2 : (j : Int) - q - 1 < 4 := by omega
        have hge2 : 0 ≤ (j : Int) - q - 1 := by omega
        have bx2 := hx (j - q - 1)
        have hcx2 : ax[j - q - 1]? = some (.int .u64 (x (j - q - 1))) := by rw [Array.getElem?_eq_getElem (by omega), gx _ (by omega)]
        have HV : Hid (shlL x q r j = bits BinOp.or IntKind.u64 (IntKind.u64.wrap (x (j - q) * 2 ^ r)) (x (j - q - 1) / 2 ^ (64 - r))) := by show _ = _; unfold shlL; rw [if_pos hqj, if_pos hqq]
        clear hss gx hx
        go_wp2
        go_region
        go_wp2
        go_roundw
        case rel => refine ⟨j + 1, m + 1, ss.setIfInBounds j (.int .u64 (shlL x q r j)), by omega, by go_num, Or.inl (by omega), by simp [hsz], HR.out, ?_⟩; rw [HV.out]
        case measure => simp [intOf]; omega
      · have hqq' : ¬ (q : Int) < j := by omega
        have HV : Hid (shlL x q r j = IntKind.u64.wrap (x (j - q) * 2 ^ r)) := by show _ = _; unfold shlL; rw [if_pos hqj, if_neg hqq]
        clear hss gx hx
        go_wp2
        go_roundw
        case rel => refine ⟨j + 1, m, ss.setIfInBounds j (.int .u64 (shlL x q r j)), by omega, by go_num, Or.inl (by omega), by simp [hsz], HR.out, ?_⟩; rw [HV.out]
        case measure => simp [intOf]; omega
    · have h8i : ¬ (j : Int) < 4 := by omega
      have hss' : ∀ k h, ss[k]'h = Value.int .u64 (shlL x q r k) := by
        intro k h; rw [hss k h, if_pos (by omega)]
      clear hss gx
      go_wp2
      exact bodyPost_ret (v := .agg (arrOf (shlL x q r) 4)) (by simp [results, Tryz.results55, go_sem]; rfl) rfl ⟨rfl, below_alloc3 _ _ _ _ _⟩
theorem limShl4_0 (x : Nat → Int) (n : Int) (w : World) (hn : n < 1) :
    Calls Tryz.prog 55 #[.agg (arrOf x 4), .int .i64 n] w fun e w' => e = .returned (.agg (arrOf x 4)) ∧ Below w.heap.size w w' := by
  have sx : (arrOf x 4).size = 4 := arrOf_size x 4
  have gx := fun i h => arrOf_get x 4 i h
  have hl : arrOf x 4 = #[.int .u64 (x 0), .int .u64 (x 1), .int .u64 (x 2), .int .u64 (x 3)] := rfl
  rw [hl]
  rw [hl] at sx gx
  clear gx sx
  go_enter Tryz.func55, Tryz.ntmps55
  go_wp2
  exact bodyPost_ret (v := .agg #[.int .u64 (x 0), .int .u64 (x 1), .int .u64 (x 2), .int .u64 (x 3)]) (by simp [results, Tryz.results55, go_sem]) rfl ⟨rfl, ((Below.refl _ _).alloc (Nat.le_refl _) _).alloc (by simp) _⟩

theorem limShr4 (x : Nat → Int) (n : Int) (q r : Nat) (w : World) (hx : Words x) (hn : 1 ≤ n) (hn2 : n ≤ 9223372036854775807) (hq : n / 64 = q) (hr : n % 64 = r) (hr6 : r < 64) :
    Calls Tryz.prog 73 #[.agg (arrOf x 4), .int .i64 n] w fun e w' => e = .returned (.agg (arrOf (shrL x q r 4) 4)) ∧ Below w.heap.size w w' := by
  have sx : (arrOf x 4).size = 4 := arrOf_size x 4
  have gx := fun i h => arrOf_get x 4 i h
  generalize arrOf x 4 = ax at *
  have hn1 : ¬ n < 1 := by omega
  go_enter Tryz.func73, Tryz.ntmps73
  go_wp2
  go_loopw [8] (fun i wr => ∃ (j m : Nat) (ss : Array Value), q ≤ j ∧ i = .int .i64 j ∧ (j ≤ 4 ∨ j = q) ∧ ss.size = 4 ∧ (∀ k h, ss[k]'h = Value.int .u64 (if k < j - q then shrL x q r 4 k else 0)) ∧ wr = ((((w.alloc (.cells ax 23)).alloc (.cells #[.int .u64 0, .int .u64 0, .int .u64 0, .int .u64 0] 23)).alloc (.cells ss 23)).drewN m)) (fun i _ => 4 - (intOf i).toNat)
  case atStart => exact ⟨q, 0, _, Nat.le_refl _, rfl, Or.inr rfl, rfl, by intro k h; have h' : k < 4 := h; rw [if_neg (by omega)]; match k, h' with | 0, _ => rfl | 1, _ => rfl | 2, _ => rfl | 3, _ => rfl, rfl⟩
  case round =>
    obtain ⟨j, m, ss, hqj, rfl, hj, hsz, hss, rfl⟩ := hrel
    by_cases h8 : j < 4
    · have h8i : (j : Int) < 4 := by omega
      have h8s : j - q < ss.size := by omega
      have hqi : (q : Int) ≤ j := by omega
      have e1 : ((j : Int) - q).toNat = j - q := by omega
      have hlt : (j : Int) - q < 4 := by omega
      have hge : 0 ≤ (j : Int) - q := by omega
      have bx := hx j
      have hcx : ax[j]? = some (.int .u64 (x j)) := by rw [Array.getElem?_eq_getElem (by omega), gx _ (by omega)]
      have hcx' : ∀ h, ax[j]'h = .int .u64 (x j) := fun h => gx j h
      have hsk : ss[j - q]? = some (.int .u64 0) := by rw [Array.getElem?_eq_getElem h8s, hss _ h8s, if_neg (by omega)]
      have HR0 : ∀ (i : Nat) (h : i < (ss.setIfInBounds (j - q) (.int .u64 (shrL x q r 4 (j - q)))).size), (ss.setIfInBounds (j - q) (.int .u64 (shrL x q r 4 (j - q))))[i]'h = Value.int .u64 (if i < (j - q) + 1 then shrL x q r 4 i else 0) := set_next hss
      have HR : Hid (∀ (i : Nat) (h : i < (ss.setIfInBounds (j - q) (.int .u64 (shrL x q r 4 (j - q)))).size), (ss.setIfInBounds (j - q) (.int .u64 (shrL x q r 4 (j - q))))[i]'h = Value.int .u64 (if i < j + 1 - q then shrL x q r 4 i else 0)) := by
        intro i h; rw [HR0 i h, show j - q + 1 = j + 1 - q by omega]
      clear HR0
      have ejq : q + (j - q) = j := by omega
      have hget : ∀ v : Value, (ss.setIfInBounds (j - q) v)[j - q]? = some v := fun v => by rw [Array.getElem?_setIfInBounds_self_of_lt h8s]
      by_cases hqq : j + 1 < 4
      · have hqq' : (j : Int) + 1 < 4 := by omega
        have bx2 := hx (j + 1)
        have e2 : ((j : Int) + 1).toNat = j + 1 := by omega
        have hcx2 : ax[j + 1]? = some (.int .u64 (x (j + 1))) := by rw [Array.getElem?_eq_getElem (by omega), gx _ (by omega)]
        have hcx2' : ∀ h, ax[j + 1]'h = .int .u64 (x (j + 1)) := fun h => gx (j + 1) h
        have HV : Hid (shrL x q r 4 (j - q) = bits BinOp.or IntKind.u64 (x j / 2 ^ r) (IntKind.u64.wrap (x (j + 1) * 2 ^ (64 - r)))) := by show _ = _; unfold shrL; rw [ejq, if_pos h8, if_pos hqq]
        clear hss gx hx ejq
        go_wp2
        go_region
        go_wp2
        go_roundw
        case rel => refine ⟨j + 1, m + 1, ss.setIfInBounds (j - q) (.int .u64 (shrL x q r 4 (j - q))), by omega, by go_num, Or.inl (by omega), by simp [hsz], HR.out, ?_⟩; rw [HV.out]
        case measure => simp [intOf]; omega
      · have hqq' : ¬ (j : Int) + 1 < 4 := by omega
        have HV : Hid (shrL x q r 4 (j - q) = x j / 2 ^ r) := by show _ = _; unfold shrL; rw [ejq, if_pos h8, if_neg hqq]
        clear hss gx hx ejq
        go_wp2
        go_roundw
        case rel => refine ⟨j + 1, m, ss.setIfInBounds (j - q) (.int .u64 (shrL x q r 4 (j - q))), by omega, by go_num, Or.inl (by omega), by simp [hsz], HR.out, ?_⟩; rw [HV.out]
        case measure => simp [intOf]; omega
    · have h8i : ¬ (j : Int) < 4 := by omega
      have hss' : ∀ k h, ss[k]'h = Value.int .u64 (shrL x q r 4 k) := by
        intro k h; rw [hss k h]
        split
        · rfl
        · unfold shrL; rw [if_neg (by omega)]
      clear hss gx
      go_wp2
      exact bodyPost_ret (v := .agg (arrOf (shrL x q r 4) 4)) (by simp [results, Tryz.results73, go_sem]; rfl) rfl ⟨rfl, below_alloc3 _ _ _ _ _⟩
theorem limShr4_0 (x : Nat → Int) (n : Int) (w : World) (hn : n < 1) :
    Calls Tryz.prog 73 #[.agg (arrOf x 4), .int .i64 n] w fun e w' => e = .returned (.agg (arrOf x 4)) ∧ Below w.heap.size w w' := by
  have sx : (arrOf x 4).size = 4 := arrOf_size x 4
  have gx := fun i h => arrOf_get x 4 i h
  have hl : arrOf x 4 = #[.int .u64 (x 0), .int .u64 (x 1), .int .u64 (x 2), .int .u64 (x 3)] := rfl
  rw [hl]
  rw [hl] at sx gx
  clear gx sx
  go_enter Tryz.func73, Tryz.ntmps73
  go_wp2
  exact bodyPost_ret (v := .agg #[.int .u64 (x 0), .int .u64 (x 1), .int .u64 (x 2), .int .u64 (x 3)]) (by simp [results, Tryz.results73, go_sem]) rfl ⟨rfl, ((Below.refl _ _).alloc (Nat.le_refl _) _).alloc (by simp) _⟩

theorem lenL_succ (x : Nat → Int) (n : Nat) : lenL x (n + 1) = if x n = 0 then lenL x n else 64 * (n : Int) + Lib.bitLen (x n).toNat := by
  by_cases h : x n = 0
  · simp [lenL, sizeL, h]
  · simp [lenL, sizeL, h]; omega

theorem limLen4 (cs : Array Value) (x : Nat → Int) (w : World) (hx : ∀ i, 0 ≤ x i ∧ x i ≤ 18446744073709551615) (hsz : cs.size = 4) (hc : ∀ i, i < 4 → cs[i]? = some (.int .u64 (x i))) :
    Calls Tryz.prog 100 #[.agg cs] w fun e w' => e = .returned (.int .i64 (lenL x 4)) ∧ w' = w.alloc (.cells cs 23) := by
  go_enter Tryz.func100, Tryz.ntmps100
  go_wp2
  go_loop [3] (fun t => ∃ k : Nat, k ≤ 4 ∧ lenL x k = lenL x 4 ∧ t = .int .i64 ((k : Int) - 1)) (fun t => (intOf t + 1).toNat)
  case atStart => exact ⟨4, Nat.le_refl _, rfl, rfl⟩
  case round =>
    obtain ⟨k, hk, hs, rfl⟩ := hrel
    by_cases h0 : k = 0
    · subst h0
      have HS : Hid (lenL x 4 = 0) := hs.symm
      clear hs
      go_wp2
      go_ret
      exact ⟨ret_int HS.out.symm, rfl⟩
    · obtain ⟨j, rfl⟩ : ∃ j, k = j + 1 := ⟨k - 1, by omega⟩
      have hcj := hc j (by omega)
      have hb := hx j
      have hbl := bitLen64 (x j).toNat
      have hj8 : (j : Int) < 4 := by omega
      have ej : ((j + 1 : Nat) : Int) - 1 = j := by omega
      rw [ej]
      by_cases hz : x j = 0
      · have HS : Hid (lenL x j = lenL x 4) := by
          have := lenL_succ x j
          rw [if_pos hz] at this
          exact this.symm.trans hs
        clear hs hc hx
        go_wp2
        go_round
        case rel => exact ⟨j, by omega, HS.out, by go_num⟩
        case measure => simp [intOf]
      · have HS : Hid (64 * (j : Int) + Lib.bitLen (x j).toNat = lenL x 4) := by
          have := lenL_succ x j
          rw [if_neg hz] at this
          exact this.symm.trans hs
        have hcl := Tryz.bits_Len64 (x j) (w.alloc (.cells cs 23)) hb.1 hb.2
        clear hs hc hx
        generalize Lib.bitLen (x j).toNat = L at *
        go_wp2_with (go_at_call 41; refine hcl.mono ?_; rintro e w' ⟨rfl, rfl⟩)
        go_ret
        exact ⟨ret_int (by rw [← HS.out]; omega), rfl⟩

def bitV (v n : Int) : Int := bits BinOp.and IntKind.u64 (v / 2 ^ (n % 64).toNat) 1

theorem limBit4 (x : Nat → Int) (n : Int) (w : World) (hx : Words x) (h0 : 0 ≤ n) (h1 : n < 256) :
    Calls Tryz.prog 75 #[.agg (arrOf x 4), .int .i64 n] w fun e w' => e = .returned (.int .u64 (bitV (x (n / 64).toNat) n)) ∧ Below w.heap.size w w' := by
  have hsz : (arrOf x 4).size = 4 := arrOf_size x 4
  have hc : ∀ h, (arrOf x 4)[(n / 64).toNat]'h = .int .u64 (x (n / 64).toNat) := fun h => arrOf_get x 4 _ h
  have hb := hx (n / 64).toNat
  generalize arrOf x 4 = cs at *
  generalize hv : x (n / 64).toNat = v at *
  clear hv
  have hj : n / 64 < 4 := by omega
  have hj0 : 0 ≤ n / 64 := by omega
  have hm : n % 64 < 64 := by omega
  have hm0 : 0 ≤ n % 64 := by omega
  go_enter Tryz.func75, Tryz.ntmps75
  go_wp2
  go_ret
  exact ⟨rfl, (Below.refl _ _).alloc (Nat.le_refl _) _⟩

theorem len4 (x : Nat → Int) (w : World) (hx : Words x) : Calls Tryz.prog 100 #[.agg (arrOf x 4)] w fun e w' => e = .returned (.int .i64 (lenL x 4)) ∧ Below w.heap.size w w' :=
  (limLen4 (arrOf x 4) x w hx (by simp) (fun i h => arrOf_get? x 4 i h)).mono fun _ _ ⟨h1, h2⟩ => ⟨h1, by rw [h2]; exact (Below.refl _ _).alloc (Nat.le_refl _) _⟩
def shlA (x : Nat → Int) (n : Int) (j : Nat) : Int := if n < 1 then x j else shlL x (n / 64).toNat (n % 64).toNat j
def shrA (x : Nat → Int) (n : Int) (N j : Nat) : Int := if n < 1 then x j else shrL x (n / 64).toNat (n % 64).toNat N j
theorem lowW_lt {x : Nat → Int} {N i : Nat} (h : i < N) : lowW x N i = x i := by unfold lowW; rw [if_pos h]
theorem lowW_ge {x : Nat → Int} {N i : Nat} (h : N ≤ i) : lowW x N i = 0 := by unfold lowW; rw [if_neg (by omega)]
theorem div64_zero (a : Int) (h : 0 ≤ a ∧ a ≤ 18446744073709551615) : a / 2 ^ (64 - 0) = 0 := by
  have e : (2 : Int) ^ (64 - 0) = 18446744073709551616 := by decide
  rw [e]; omega
theorem wrap64_zero (a : Int) : IntKind.u64.wrap (a * 2 ^ (64 - 0)) = 0 := by
  have e : (2 : Int) ^ (64 - 0) = 18446744073709551616 := by decide
  rw [e]
  simp only [IntKind.wrap, IntKind.bits, IntKind.signed]
  simp
theorem shlL_fin {x : Nat → Int} (hx : Words x) {N : Nat} (q r : Nat) : lowW (shlL x q r) N = lowW (finL (lowW x N) q r) N := by
  funext j
  by_cases hj : j < N
  · rw [lowW_lt hj, lowW_lt hj]
    unfold shlL finL
    by_cases hq : q ≤ j
    · rw [if_pos hq, if_pos hq, lowW_lt (x := x) (N := N) (i := j - q) (by omega)]
      by_cases h : q < j
      · rw [if_pos h]
        have e : lowp (lowW x N) q r j = x (j - q - 1) / 2 ^ (64 - r) := by
          unfold lowp
          rw [lowW_lt (x := x) (N := N) (i := j - q - 1) (by omega)]
          by_cases hr : 0 < r
          · rw [if_pos ⟨by omega, hr⟩]
          · have hr0 : r = 0 := by omega
            subst hr0
            rw [if_neg (by omega), div64_zero _ (hx _)]
        rw [e]
        exact orW_comm _ _ (wrap_word _) (div_word _ _ (hx _))
      · rw [if_neg h]
        have e : lowp (lowW x N) q r j = 0 := by unfold lowp; rw [if_neg (by omega)]
        rw [e, zero_orW _ (wrap_word _)]
    · rw [if_neg hq, if_neg hq]
  · rw [lowW_ge (by omega), lowW_ge (by omega)]
theorem shrL_fin {x : Nat → Int} (hx : Words x) {N : Nat} (q r : Nat) : lowW (shrL x q r N) N = shrW (lowW x N) q r := by
  funext j
  by_cases hj : j < N
  · rw [lowW_lt hj]
    by_cases hq : q + j < N
    · unfold shrL shrW
      rw [if_pos hq, lowW_lt hq]
      by_cases hr : r = 0
      · subst hr
        rw [if_pos rfl]
        have e : x (q + j) / 2 ^ 0 = x (q + j) := by simp
        rw [e, wrap64_zero]
        by_cases h : q + j + 1 < N
        · rw [if_pos h]; exact orW_zero _ (hx _)
        · rw [if_neg h]
      · rw [if_neg hr]
        by_cases h : q + j + 1 < N
        · rw [if_pos h, lowW_lt h]; rfl
        · rw [if_neg h, lowW_ge (x := x) (N := N) (i := q + j + 1) (by omega), Int.zero_mul]
          rw [show IntKind.u64.wrap 0 = 0 by decide, orW_zero _ (div_word _ _ (hx _))]
    · rw [shrW_zero (n := N) (fun i hi => lowW_ge hi) q r j (by omega)]
      unfold shrL; rw [if_neg hq]
  · rw [lowW_ge (by omega), shrW_zero (n := N) (fun i hi => lowW_ge hi) q r j (by omega)]
theorem shlA_words {x : Nat → Int} (hx : Words x) (n : Int) : Words (shlA x n) := fun j => by
  unfold shlA; split
  · exact hx j
  · unfold shlL; split
    · split
      · exact orW_word _ _ (wrap_word _) (div_word _ _ (hx _))
      · exact wrap_word _
    · decide
theorem shrA_words {x : Nat → Int} (hx : Words x) (n : Int) (N : Nat) : Words (shrA x n N) := fun j => by
  unfold shrA; split
  · exact hx j
  · unfold shrL; split
    · split
      · exact orW_word _ _ (div_word _ _ (hx _)) (wrap_word _)
      · exact div_word _ _ (hx _)
    · decide
theorem shlA4 (x : Nat → Int) (n : Int) (w : World) (hx : Words x) (hn2 : n ≤ 9223372036854775807) :
    Calls Tryz.prog 55 #[.agg (arrOf x 4), .int .i64 n] w fun e w' => e = .returned (.agg (arrOf (shlA x n) 4)) ∧ Below w.heap.size w w' := by
  by_cases h1 : n < 1
  · have e : shlA x n = x := by funext j; unfold shlA; rw [if_pos h1]
    rw [e]; exact limShl4_0 x n w h1
  · have e : shlA x n = shlL x (n / 64).toNat (n % 64).toNat := by funext j; unfold shlA; rw [if_neg h1]
    rw [e]; exact limShl4 x n _ _ w hx (by omega) hn2 (by omega) (by omega) (by omega)
theorem shrA4 (x : Nat → Int) (n : Int) (w : World) (hx : Words x) (hn2 : n ≤ 9223372036854775807) :
    Calls Tryz.prog 73 #[.agg (arrOf x 4), .int .i64 n] w fun e w' => e = .returned (.agg (arrOf (shrA x n 4) 4)) ∧ Below w.heap.size w w' := by
  by_cases h1 : n < 1
  · have e : shrA x n 4 = x := by funext j; unfold shrA; rw [if_pos h1]
    rw [e]; exact limShr4_0 x n w h1
  · have e : shrA x n 4 = shrL x (n / 64).toNat (n % 64).toNat 4 := by funext j; unfold shrA; rw [if_neg h1]
    rw [e]; exact limShr4 x n _ _ w hx (by omega) hn2 (by omega) (by omega) (by omega)
end
end Go.Proofs.YtehgnckgmdkfmaaGreatDoor

set_option maxRecDepth 100000
set_option maxRecDepth 20000
namespace Go.Proofs.YtehgnckgmdkfmaaGreatDoor
open Go.ChangeShapes Go.WideShapes Go.ChangeAt Go.RowKit

theorem Tryz.cells22 : Tryz.prog.cellsOf 22 = 1 := by kernel_rfl
section
variable {H : Type} {enc : TypeId × Value → H} {W : World} {r : Reach} {base b : Nat} {sp : Nat → Bool} {held : Bool} {t : TypeId} {n : Nat} {v : Value} {d : DataW H} {p : List MemPlace}
theorem open_words (ht : Tryz.prog.underlying t = some (.array n 22)) (hc : Tryz.prog.cellsOf t = n) (hok : Value.okWide Tryz.prog W r base t v) (h : DataW.Trod enc Tryz.prog W b sp held t v d p) :
    ∃ x, Words x ∧ v = .agg (arrOf x n) ∧ p = [] := by
  have ho : ∃ cs, v = .agg cs ∧ cs.size = n := by
    simp only [Value.okWide, ht] at hok
    obtain ⟨cs, h1, h2, _⟩ := hok
    exact ⟨cs, h1, by rw [h2, hc]⟩
  obtain ⟨cs, rfl, hcs⟩ := ho
  obtain ⟨fuel, hf⟩ := h
  obtain ⟨xs, m, rfl, hx, hl, hlen, hi⟩ := DataW.trod_array ht hf
  have hcell : ∀ i, i < n → ∃ z, cs[i]? = some (.int .u64 z) ∧ xs[i]? = some (.lit (.int .u64 z), []) ∧ (0 ≤ z ∧ z ≤ 18446744073709551615) := by
    intro i hin
    have h1 := hi i hin
    rw [Tryz.cells22] at h1
    have hix : i < xs.length := by omega
    rw [List.getElem?_eq_getElem hix] at h1
    obtain ⟨z, hz, hxz, hw⟩ := DataW.trod_int Tryz.underlying22 h1
    refine ⟨z, ?_, ?_, bounds_u64 hw⟩
    · have hic : i < cs.size := by omega
      have : ((Value.agg cs).cells.toList.drop (i * 1)).take 1 = [cs[i]] := by
        simp [Value.cells, List.take_one, List.head?_drop, hic]
      rw [this] at hz
      rw [Array.getElem?_eq_getElem hic]
      simpa using hz
    · rw [List.getElem?_eq_getElem hix, hxz]
  refine ⟨fun i => match cs[i]? with | some (.int .u64 z) => (if i < n then z else 0) | _ => 0, ?_, ?_, ?_⟩
  · intro i
    by_cases hin : i < n
    · obtain ⟨z, h1, _, h3⟩ := hcell i hin
      simp only [h1, if_pos hin]; exact h3
    · have : cs[i]? = none := by simp; omega
      simp only [this]; omega
  · congr 1
    refine arrOf_of cs n _ hcs fun i hin => ?_
    obtain ⟨z, h1, _, _⟩ := hcell i hin
    simp only [h1, if_pos hin]
  · have : p = xs.flatMap (·.2) := by
      have := congrArg Prod.snd hx; simpa using this
    rw [this]
    simp only [List.flatMap_eq_nil_iff]
    intro y hy
    obtain ⟨i, hin, rfl⟩ := List.getElem_of_mem hy
    obtain ⟨z, _, h2, _⟩ := hcell i (by omega)
    rw [List.getElem?_eq_getElem hin] at h2
    rw [Option.some.inj h2]
end
end Go.Proofs.YtehgnckgmdkfmaaGreatDoor
