/-
  Texts that the proof leans on.
-/
import Derived.Test.YtpemdcnneabbfaaDoorJ7
import Derived.Test.YtpemdcnneabbfaaDoorJ3
import Derived.Deep.Cut
import Derived.Deep.CutRange
import Derived.Laws.IdiomCopy
import Derived.Laws.CopyRow
import Derived.Deep.WholeRow
import Derived.BigRegion
import Derived.ChangeKeysEq
set_option linter.unusedVariables false
set_option linter.unusedSimpArgs false
set_option linter.unusedSectionVars false
set_option maxRecDepth 20000
namespace Go.Proofs.YtpemdcnneabbfaaDoor
open Go.RowKit
section
attribute [local go_sem] setCell_drewN alloc_drewN

theorem upd_words {z : Nat → Int} {p : Nat} {v : Int} (hz : Words z) (hv : 0 ≤ v ∧ v ≤ 18446744073709551615) : Words (fun j => if j = p then v else z j) := fun i => by
  show 0 ≤ (if i = p then v else z i) ∧ (if i = p then v else z i) ≤ _
  split
  · exact hv
  · exact hz i
end
/-- the words of x lie in block g -/
def HasN (g n : Nat) (x : Nat → Int) (w : World) : Prop := g < w.heap.size ∧ ∀ i, i < n → w.cell? ⟨g, i, none⟩ = some (.int .u64 (x i))
theorem HasN.next {g n : Nat} {x : Nat → Int} {w w' : World} (h : HasN g n x w) (hb : Below w.heap.size w w') : HasN g n x w' :=
  ⟨Nat.lt_of_lt_of_le h.1 hb.size, fun i hi => (hb.cell (p := ⟨g, i, none⟩) h.1).trans (h.2 i hi)⟩
theorem HasN.of_alloc (w : World) (cs : Array Value) (t : TypeId) (n : Nat) (x : Nat → Int) (h : ∀ i, i < n → cs[i]? = some (.int .u64 (x i))) : HasN w.heap.size n x (w.alloc (.cells cs t)) :=
  ⟨by simp, fun i hi => by rw [World.cell?_alloc_new]; exact h i hi⟩
theorem HasN.num {g n c m : Nat} {x : Nat → Int} {w : World} (h : HasN g m x w) (hx : Words x) (hn : n ≤ m) (hc : n ≤ c) (hcm : c ≤ maxLen) : Num w (some ⟨g, 0, none⟩) n c (lowW x n) :=
  ⟨hc, hcm, lowW_words hx n, fun i hi => by unfold lowW; rw [if_neg (by omega)], Or.inr ⟨g, 0, rfl, h.1, fun i hi => by rw [Nat.zero_add, h.2 i (by omega)]; unfold lowW; rw [if_pos hi]⟩⟩

/-- all the blocks of the list stand; nothing elder than the call has turned -/
def KP (w0 : World) (l : List (Nat × Nat × (Nat → Int))) (w : World) : Prop := Below w0.heap.size w0 w ∧ ∀ e ∈ l, HasN e.1 e.2.1 e.2.2 w
theorem KP.next {w0 : World} {l : List (Nat × Nat × (Nat → Int))} {w w' : World} (h : KP w0 l w) (hb : Below w.heap.size w w') : KP w0 l w' := ⟨h.1.trans (hb.mono h.1.size), fun e he => (h.2 e he).next hb⟩
theorem KP.drew {w0 : World} {l : List (Nat × Nat × (Nat → Int))} {w : World} (h : KP w0 l w) : KP w0 l w.drew := ⟨h.1.drew, h.2⟩
theorem KP.alloc {w0 : World} {l : List (Nat × Nat × (Nat → Int))} {w : World} (h : KP w0 l w) (o : Obj) : KP w0 l (w.alloc o) := h.next (below1 w o)
theorem KP.setg {w0 : World} {l : List (Nat × Nat × (Nat → Int))} {w wg : World} (h : KP w0 l w) (hg : KP w0 l wg) (i : Nat) (v : Value) : KP w0 l (w.setCell ⟨wg.heap.size, i, none⟩ v) := by
  refine ⟨h.1.setCell hg.1.size v, fun e he => ?_⟩
  have h1 := h.2 e he
  have h2 := (hg.2 e he).1
  have hb : Below (e.1 + 1) w (w.setCell ⟨wg.heap.size, i, none⟩ v) := (Below.refl _ _).setCell (by show e.1 + 1 ≤ wg.heap.size; omega) v
  exact ⟨Nat.lt_of_lt_of_le h1.1 hb.size, fun j hj => (hb.cell (p := ⟨e.1, j, none⟩) (by show e.1 < e.1 + 1; omega)).trans (h1.2 j hj)⟩
theorem KP.cons {w0 : World} {l : List (Nat × Nat × (Nat → Int))} {w : World} (h : KP w0 l w) {g n : Nat} {x : Nat → Int} (hg : HasN g n x w) : KP w0 ((g, n, x) :: l) w := ⟨h.1, fun e he => by
  rcases List.mem_cons.1 he with rfl | he
  · exact hg
  · exact h.2 e he⟩
theorem KP.at {w0 : World} {l : List (Nat × Nat × (Nat → Int))} {w : World} (h : KP w0 l w) {g n : Nat} {x : Nat → Int} (hm : (g, n, x) ∈ l) : HasN g n x w := h.2 _ hm
theorem lt_alloc' {W w3 : World} {o : Obj} {n : Nat} (hb : Below n (W.alloc o) w3) : W.heap.size < w3.heap.size := by
  have h := hb.size
  have h2 : (W.alloc o).heap.size = W.heap.size + 1 := World.size_alloc W o
  omega
theorem KP.new {w0 : World} {l : List (Nat × Nat × (Nat → Int))} {w : World} (h : KP w0 l w) (cs : Array Value) (t : TypeId) (n : Nat) (x : Nat → Int) (hc : ∀ i, i < n → cs[i]? = some (.int .u64 (x i))) : KP w0 ((w.heap.size, n, x) :: l) (w.alloc (.cells cs t)) :=
  (h.alloc _).cons (HasN.of_alloc w cs t n x hc)
/-- n cells of a block that was made some time ago, written one by one -/
def putN (w : World) (g : Nat) (x : Nat → Int) : Nat → World
  | 0 => w
  | n + 1 => (putN w g x n).setCell ⟨g, n, none⟩ (.int .u64 (x n))
theorem putN_kp {w0 : World} {l : List (Nat × Nat × (Nat → Int))} {w wg : World} (h : KP w0 l w) (hg : KP w0 l wg) (x : Nat → Int) : ∀ n, KP w0 l (putN w wg.heap.size x n)
  | 0 => h
  | n + 1 => (putN_kp h hg x n).setg hg n _
theorem putN_size (w : World) (g : Nat) (x : Nat → Int) : ∀ n, w.heap.size ≤ (putN w g x n).heap.size
  | 0 => Nat.le_refl _
  | n + 1 => Nat.le_trans (putN_size w g x n) ((Below.refl 0 _).setCell (Nat.zero_le _) _ : Below 0 _ _).size
theorem putN_cell (w : World) (g N : Nat) (x : Nat → Int) (hc : ∀ i, i < N → (w.cell? ⟨g, i, none⟩).isSome = true) : ∀ n, n ≤ N → ∀ i, i < N → (putN w g x n).cell? ⟨g, i, none⟩ = if i < n then some (.int .u64 (x i)) else w.cell? ⟨g, i, none⟩
  | 0, _, i, _ => by rw [if_neg (by omega)]; rfl
  | n + 1, hn, i, hi => by
    have ih := putN_cell w g N x hc n (by omega)
    show ((putN w g x n).setCell ⟨g, n, none⟩ (.int .u64 (x n))).cell? ⟨g, i, none⟩ = _
    by_cases e : i = n
    · subst e
      rw [if_pos (by omega)]
      have := ih i hi
      rw [if_neg (by omega)] at this
      exact World.cell?_setCell_same' _ _ _ (by rw [this]; exact hc i hi)
    · have hne : (⟨g, n, none⟩ : Addr) ≠ ⟨g, i, none⟩ := by intro h; injection h with h1 h2; exact e h2.symm
      refine Eq.trans (World.cell?_setCell_other (h := hne) ..) ?_
      rw [ih i hi]
      by_cases e2 : i < n
      · rw [if_pos e2, if_pos (by omega)]
      · rw [if_neg e2, if_neg (by omega)]
theorem KP.put {w0 : World} {l : List (Nat × Nat × (Nat → Int))} {w wg : World} (h : KP w0 l w) (hg : KP w0 l wg) (hlt : wg.heap.size < w.heap.size) (x : Nat → Int) (n : Nat) (hc : ∀ i, i < n → (w.cell? ⟨wg.heap.size, i, none⟩).isSome = true) : KP w0 ((wg.heap.size, n, x) :: l) (putN w wg.heap.size x n) :=
  (putN_kp h hg x n).cons ⟨Nat.lt_of_lt_of_le hlt (putN_size w _ x n), fun i hi => by rw [putN_cell w wg.heap.size n x hc n (Nat.le_refl _) i hi, if_pos hi]⟩
section
set_option maxHeartbeats 400000 in
theorem bare_any (a : Option Addr) (n c : Nat) (x : Nat → Int) (w : World) (hn : n < 4294967296) (h : Num w a n c x) :
    Calls Tryd.prog 50 #[.slice a n c] w fun e w' => e = .returned (.slice a (sizeL x n) c) ∧ w = w' := by
  obtain ⟨h1, h2, h3, h4, h5⟩ := h
  rcases h5 with ⟨rfl, rfl⟩ | ⟨b, off, rfl, hbs, hc⟩
  · obtain rfl : n = 0 := by omega
    go_enter Tryd.func50, Tryd.ntmps50
    go_wp2
    go_loop [3] (fun t => t = .int .i64 0) (fun t => (intOf t).toNat)
    case atStart => rfl
    case round =>
      subst hrel
      go_wp2
      go_ret
      exact ⟨rfl, rfl⟩
  · unfold maxLen at h2
    clear h3 h4
    go_enter Tryd.func50, Tryd.ntmps50
    go_wp2
    go_loop [3] (fun t => ∃ k : Nat, k ≤ n ∧ sizeL x k = sizeL x n ∧ t = .int .i64 k) (fun t => (intOf t).toNat)
    case atStart => exact ⟨n, Nat.le_refl _, rfl, rfl⟩
    case round =>
      obtain ⟨k, hk, hs, rfl⟩ := hrel
      by_cases h0 : k = 0
      · subst h0
        have HS : Hid (sizeL x n = 0) := hs.symm
        clear hs hc
        go_wp2
        go_ret
        exact ⟨by rw [HS.out]; rfl, rfl⟩
      · obtain ⟨j, rfl⟩ : ∃ j, k = j + 1 := ⟨k - 1, by omega⟩
        have hcj := hc j (by omega)
        by_cases hzj : x j = 0
        · have HS : Hid (sizeL x j = sizeL x n) := by
            have : sizeL x (j + 1) = sizeL x j := by simp [sizeL, hzj]
            exact this.symm.trans hs
          clear hs hc
          go_wp2
          go_round
          case rel => exact ⟨j, by omega, HS.out, by go_num⟩
          case measure => simp [intOf]
        · have HS : Hid (sizeL x n = j + 1) := by
            have : sizeL x (j + 1) = j + 1 := by simp [sizeL, hzj]
            exact hs.symm.trans this
          clear hs hc
          go_wp2
          go_ret
          exact ⟨by rw [HS.out]; rfl, rfl⟩

theorem sizeL_zero {x : Nat → Int} : ∀ n, (∀ i, n ≤ i → x i = 0) → ∀ i, sizeL x n ≤ i → x i = 0
  | 0, h, i, _ => h i (Nat.zero_le _)
  | n + 1, h, i, hi => by
    by_cases hz : x n = 0
    · rw [show sizeL x (n + 1) = sizeL x n by simp [sizeL, hz]] at hi
      exact sizeL_zero n (fun j hj => if e : j = n then e ▸ hz else h j (by omega)) i hi
    · rw [show sizeL x (n + 1) = n + 1 by simp [sizeL, hz]] at hi
      exact h i hi
theorem sizeL_top {x : Nat → Int} : ∀ n, 0 < sizeL x n → x (sizeL x n - 1) ≠ 0
  | 0, h => by simp [sizeL] at h
  | n + 1, h => by
    by_cases hz : x n = 0
    · rw [show sizeL x (n + 1) = sizeL x n by simp [sizeL, hz]] at h ⊢
      exact sizeL_top n h
    · rw [show sizeL x (n + 1) = n + 1 by simp [sizeL, hz]]
      exact hz
theorem sizeL_sizeL (x : Nat → Int) : ∀ n, sizeL x (sizeL x n) = sizeL x n
  | 0 => rfl
  | n + 1 => by
    by_cases hz : x n = 0
    · rw [show sizeL x (n + 1) = sizeL x n by simp [sizeL, hz]]; exact sizeL_sizeL x n
    · have : sizeL x (n + 1) = n + 1 := by simp [sizeL, hz]
      rw [this]; exact this
theorem Num.bare {w : World} {a : Option Addr} {n c : Nat} {x : Nat → Int} (h : Num w a n c x) : Num w a (sizeL x n) c x := by
  obtain ⟨h1, h2, h3, h4, h5⟩ := h
  have hle := sizeL_le x n
  refine ⟨by omega, h2, h3, sizeL_zero n h4, ?_⟩
  rcases h5 with ⟨h, h'⟩ | ⟨b, off, h, hb, hc⟩
  · exact Or.inl ⟨h, h'⟩
  · exact Or.inr ⟨b, off, h, hb, fun i hi => hc i (by omega)⟩
theorem setRow_new (w : World) (cs ds : Array Value) (t : TypeId) : (w.alloc (.cells cs t)).setRow w.heap.size ds = w.alloc (.cells ds t) := World.setRow_alloc_new w cs ds t
theorem wl_get (x : Nat → Int) (k j : Nat) (v : Value) (h : (wl x k)[j]? = some v) : j < k ∧ v = .int .u64 (x j) := by
  have hj : j < k := by
    rcases Nat.lt_or_ge j k with h' | h'
    · exact h'
    · rw [List.getElem?_eq_none (by simpa [wl] using h')] at h; cases h
  refine ⟨hj, ?_⟩
  simpa [wl, hj] using h.symm
theorem copy_num {w : World} {a : Option Addr} {k c N C : Nat} {x : Nat → Int} (ty : TypeId) (h : Num w a k c x) (hN : k ≤ N) :
    (Builtin.copy_ #[77, 77] ty #[.slice (some ⟨w.heap.size, 0, none⟩) N C, .slice a k c]).run Tryd.prog (w.alloc (.cells (arrOf (fun _ => 0) N) 22)) = .ok (goInt k) (w.alloc (.cells (arrOf x N) 22)) := by
  obtain ⟨h1, h2, h3, h4, h5⟩ := h
  have hsz : (Tryd.prog.info? 22).map (·.size) = some 1 := by kernel_rfl
  rcases h5 with ⟨rfl, rfl⟩ | ⟨b, off, rfl, hb, hc⟩
  · obtain rfl : k = 0 := by omega
    rw [run_copy_none _ 77 77 ty 22 _ _ _ _ _ _ Tryd.underlying77 hsz (by simp)]
    have : arrOf (fun _ => 0) N = arrOf x N := arrOf_congr fun i _ => (h4 i (Nat.zero_le _)).symm
    rw [this]; rfl
  · have hl : (wl x k).length = k := by simp [wl]
    rw [run_copy_row _ _ 77 77 ty 22 w.heap.size 0 N C ⟨b, off, none⟩ k c (arrOf (fun _ => 0) N) 22 (wl x k) Tryd.underlying77 hsz (MapKept.heap_alloc w _).1 (by rw [hl]; exact (Nat.min_eq_left hN).symm) ?_ (by rw [hl, arrOf_size]; omega) ?_]
    · rw [hl, setRow_new]
      have : ((arrOf (fun _ => 0) N).toList.take 0 ++ wl x k ++ (arrOf (fun _ => 0) N).toList.drop (0 + k)).toArray = arrOf x N := by
        apply arrOf_of
        · simp [wl, arrOf]; omega
        · intro i hi
          by_cases hik : i < k
          · simp [wl, arrOf, List.getElem?_append, hik]
          · simp [wl, arrOf, List.getElem?_append, hik]
            rw [h4 i (by omega)]
            have : k + (i - k) = i := by omega
            simp [this, hi]
      rw [this]
    · intro j v hj
      obtain ⟨hjk, rfl⟩ := wl_get x k j v hj
      have ea : (⟨b, off, none⟩ : Addr).add j = ⟨b, off + j, none⟩ := by simp [Addr.add]
      rw [ea]
      exact ((below1 w _).cell (p := ⟨b, off + j, none⟩) hb).trans (hc j hjk)
    · intro v hv
      obtain ⟨q, _, rfl⟩ := List.mem_map.1 hv
      rfl

set_option maxHeartbeats 1000000 in
theorem ntrim_any (a : Option Addr) (n c : Nat) (x : Nat → Int) (w : World) (hn : n < 4294967296) (h : Num w a n c x) :
    Calls Tryd.prog 71 #[.slice a n c] w fun e w' => e = .returned (.slice (some ⟨w.heap.size, 0, none⟩) (sizeL x n) (sizeL x n)) ∧ w.alloc (.cells (arrOf x (sizeL x n)) 22) = w' := by
  have hb := bare_any a n c x w hn h
  have hle := sizeL_le x n
  have hmk := fun w => make_any (sizeL x n : Int) (sizeL x n) rfl (by omega) w
  have hcp := fun ty => copy_num (N := sizeL x n) (C := sizeL x n) ty h.bare (Nat.le_refl _)
  clear h
  generalize sizeL x n = s at *
  go_enter Tryd.func71, Tryd.ntmps71
  go_wp2_with (go_at_call 50; refine hb.mono ?_; rintro e w' ⟨rfl, rfl⟩)
  go_ret
  exact ⟨rfl, rfl⟩
end
section
attribute [local go_sem ↓] Go.wp_at_zero Go.wp_at_succ
attribute [local go_sem] setCell_drewN alloc_drewN

theorem limAdd4 (x y : Nat → Int) (w : World) (hx : Words x) (hy : Words y) :
    Calls Tryd.prog 30 #[.agg (arrOf x 4), .agg (arrOf y 4)] w fun e w' => e = .returned (.tuple #[.agg (arrOf (sumW x y) 4), .int .u64 (carryW x y 4)]) ∧ Below w.heap.size w w' := by
  have sx : (arrOf x 4).size = 4 := arrOf_size x 4
  have sy : (arrOf y 4).size = 4 := arrOf_size y 4
  have gx := fun i h => arrOf_get x 4 i h
  have gy := fun i h => arrOf_get y 4 i h
  generalize arrOf x 4 = ax at *
  generalize arrOf y 4 = ay at *
  go_enter Tryd.func30, Tryd.ntmps30
  go_wp2
  go_loopw [7, 8, 11, 14] (fun c u8 i u14 wr => ∃ (k m : Nat) (ss : Array Value), k ≤ 4 ∧ i = .int .i64 k ∧ c = .int .u64 (carryW x y k) ∧ ss.size = 4 ∧ (∀ j h, ss[j]'h = Value.int .u64 (if j < k then sumW x y j else 0)) ∧ wr = (((((w.alloc (.cells ax 24)).alloc (.cells ay 24)).alloc (.cells #[.int .u64 0, .int .u64 0, .int .u64 0, .int .u64 0] 24)).alloc (.cells ss 24)).drewN m)) (fun _ _ i _ _ => 4 - (intOf i).toNat)
  case atStart => exact ⟨0, 0, _, Nat.zero_le _, rfl, rfl, rfl, by intro j h; have h' : j < 4 := h; match j, h' with | 0, _ => rfl | 1, _ => rfl | 2, _ => rfl | 3, _ => rfl, rfl⟩
  case round =>
    obtain ⟨k, m, ss, hk, rfl, rfl, hsz, hss, rfl⟩ := hrel
    have hcar := carryW_01 hx hy k
    by_cases h8 : k < 4
    · have h8i : (k : Int) < 4 := by omega
      have h8s : k < ss.size := by omega
      have bx := hx k
      have b_y := hy k
      have hcx : (ax[k]'(by omega)) = .int .u64 (x k) := gx k _
      have hcy : (ay[k]'(by omega)) = .int .u64 (y k) := gy k _
      have hadd := fun w => add64 (x k) (y k) (carryW x y k) bx.1 b_y.1 hcar.1 hcar.2 w
      go_wp2
      go_region_held3 (fun w' => w'.cell? ⟨w.heap.size, k, none⟩ = some (.int .u64 (x k)) ∧ w'.cell? ⟨w.heap.size + 1, k, none⟩ = some (.int .u64 (y k))) ((simp [go_sem, hcx, hcy, sx, sy, h8])) (fail)
      go_wp2
      go_roundw
      case rel => exact ⟨k + 1, m + 1, ss.setIfInBounds k (.int .u64 (sumW x y k)), by omega, by go_num, rfl, by simp [hsz], set_next hss, rfl⟩
      case measure => simp [intOf]; omega
    · obtain rfl : k = 4 := by omega
      have hss' : ∀ j h, ss[j]'h = Value.int .u64 (sumW x y j) := by
        intro j h; rw [hss j h, if_pos (by omega)]
      clear hss
      go_wp2
      exact bodyPost_ret (v := .tuple #[.agg (arrOf (sumW x y) 4), .int .u64 (carryW x y 4)]) (by simp [results, Tryd.results30, go_sem]; rfl) rfl ⟨rfl, below_alloc4 _ _ _ _ _ _⟩

theorem limSub4 (x y : Nat → Int) (w : World) (hx : Words x) (hy : Words y) :
    Calls Tryd.prog 44 #[.agg (arrOf x 4), .agg (arrOf y 4)] w fun e w' => e = .returned (.tuple #[.agg (arrOf (difW x y) 4), .int .u64 (borW x y 4)]) ∧ Below w.heap.size w w' := by
  have sx : (arrOf x 4).size = 4 := arrOf_size x 4
  have sy : (arrOf y 4).size = 4 := arrOf_size y 4
  have gx := fun i h => arrOf_get x 4 i h
  have gy := fun i h => arrOf_get y 4 i h
  generalize arrOf x 4 = ax at *
  generalize arrOf y 4 = ay at *
  go_enter Tryd.func44, Tryd.ntmps44
  go_wp2
  go_loopw [7, 8, 11, 14] (fun c u8 i u14 wr => ∃ (k m : Nat) (ss : Array Value), k ≤ 4 ∧ i = .int .i64 k ∧ c = .int .u64 (borW x y k) ∧ ss.size = 4 ∧ (∀ j h, ss[j]'h = Value.int .u64 (if j < k then difW x y j else 0)) ∧ wr = (((((w.alloc (.cells ax 24)).alloc (.cells ay 24)).alloc (.cells #[.int .u64 0, .int .u64 0, .int .u64 0, .int .u64 0] 24)).alloc (.cells ss 24)).drewN m)) (fun _ _ i _ _ => 4 - (intOf i).toNat)
  case atStart => exact ⟨0, 0, _, Nat.zero_le _, rfl, rfl, rfl, by intro j h; have h' : j < 4 := h; match j, h' with | 0, _ => rfl | 1, _ => rfl | 2, _ => rfl | 3, _ => rfl, rfl⟩
  case round =>
    obtain ⟨k, m, ss, hk, rfl, rfl, hsz, hss, rfl⟩ := hrel
    have hcar := borW_01 x y k
    by_cases h8 : k < 4
    · have h8i : (k : Int) < 4 := by omega
      have h8s : k < ss.size := by omega
      have bx := hx k
      have b_y := hy k
      have hcx : (ax[k]'(by omega)) = .int .u64 (x k) := gx k _
      have hcy : (ay[k]'(by omega)) = .int .u64 (y k) := gy k _
      have hadd := fun w => sub64 (x k) (y k) (borW x y k) bx.1 b_y.1 (by omega) hcar.1 hcar.2 w
      go_wp2
      go_region_held3 (fun w' => w'.cell? ⟨w.heap.size, k, none⟩ = some (.int .u64 (x k)) ∧ w'.cell? ⟨w.heap.size + 1, k, none⟩ = some (.int .u64 (y k))) ((simp [go_sem, hcx, hcy, sx, sy, h8])) (fail)
      go_wp2
      go_roundw
      case rel => exact ⟨k + 1, m + 1, ss.setIfInBounds k (.int .u64 (difW x y k)), by omega, by go_num, rfl, by simp [hsz], set_next hss, rfl⟩
      case measure => simp [intOf]; omega
    · obtain rfl : k = 4 := by omega
      have hss' : ∀ j h, ss[j]'h = Value.int .u64 (difW x y j) := by
        intro j h; rw [hss j h, if_pos (by omega)]
      clear hss
      go_wp2
      exact bodyPost_ret (v := .tuple #[.agg (arrOf (difW x y) 4), .int .u64 (borW x y 4)]) (by simp [results, Tryd.results44, go_sem]; rfl) rfl ⟨rfl, below_alloc4 _ _ _ _ _ _⟩

def shlL (x : Nat → Int) (q r j : Nat) : Int := if q ≤ j then (if q < j then bits BinOp.or IntKind.u64 (IntKind.u64.wrap (x (j - q) * 2 ^ r)) (x (j - q - 1) / 2 ^ (64 - r)) else IntKind.u64.wrap (x (j - q) * 2 ^ r)) else 0
def shrL (x : Nat → Int) (q r n j : Nat) : Int := if q + j < n then (if q + j + 1 < n then bits BinOp.or IntKind.u64 (x (q + j) / 2 ^ r) (IntKind.u64.wrap (x (q + j + 1) * 2 ^ (64 - r))) else x (q + j) / 2 ^ r) else 0

theorem limShl4 (x : Nat → Int) (n : Int) (q r : Nat) (w : World) (hx : Words x) (hn : 1 ≤ n) (hn2 : n ≤ 9223372036854775807) (hq : n / 64 = q) (hr : n % 64 = r) (hr6 : r < 64) :
    Calls Tryd.prog 45 #[.agg (arrOf x 4), .int .i64 n] w fun e w' => e = .returned (.agg (arrOf (shlL x q r) 4)) ∧ Below w.heap.size w w' := by
  have sx : (arrOf x 4).size = 4 := arrOf_size x 4
  have gx := fun i h => arrOf_get x 4 i h
  generalize arrOf x 4 = ax at *
  have hn1 : ¬ n < 1 := by omega
  go_enter Tryd.func45, Tryd.ntmps45
  go_wp2
  go_loopw [8] (fun i wr => ∃ (j m : Nat) (ss : Array Value), q ≤ j ∧ i = .int .i64 j ∧ (j ≤ 4 ∨ j = q) ∧ ss.size = 4 ∧ (∀ k h, ss[k]'h = Value.int .u64 (if k < j then shlL x q r k else 0)) ∧ wr = ((((w.alloc (.cells ax 24)).alloc (.cells #[.int .u64 0, .int .u64 0, .int .u64 0, .int .u64 0] 24)).alloc (.cells ss 24)).drewN m)) (fun i _ => 4 - (intOf i).toNat)
  case atStart => exact ⟨q, 0, _, Nat.le_refl _, rfl, Or.inr rfl, rfl, by intro k h; have h' : k < 4 := h; by_cases e : k < q; (rw [if_pos e]; unfold shlL; rw [if_neg (by omega)]; match k, h' with | 0, _ => rfl | 1, _ => rfl | 2, _ => rfl | 3, _ => rfl); (rw [if_neg e]; match k, h' with | 0, _ => rfl | 1, _ => rfl | 2, _ => rfl | 3, _ => rfl), rfl⟩
  case round =>
    obtain ⟨j, m, ss, hqj, rfl, hj, hsz, hss, rfl⟩ := hrel
    by_cases h8 : j < 4
    · have h8i : (j : Int) < 4 := by omega
      have h8s : j < ss.size := by omega
      have hqi : (q : Int) ≤ j := by omega
      have e1 : ((j : Int) - q).toNat = j - q := by omega
      have hlt : (j : Int) - q < 4 := by omega
      have hge : 0 ≤ (j : Int) - q := by omega
      have bx := hx (j - q)
      have hcx : ax[j - q]? = some (.int .u64 (x (j - q))) := by rw [Array.getElem?_eq_getElem (by omega), gx _ (by omega)]
      have hsk : ss[j]? = some (.int .u64 0) := by rw [Array.getElem?_eq_getElem h8s, hss j h8s, if_neg (by omega)]
      have HR : Hid (∀ (i : Nat) (h : i < (ss.setIfInBounds j (.int .u64 (shlL x q r j))).size), (ss.setIfInBounds j (.int .u64 (shlL x q r j)))[i]'h = Value.int .u64 (if i < j + 1 then shlL x q r i else 0)) := set_next hss
      by_cases hqq : q < j
      · have hqq' : (q : Int) < j := by omega
        have e2 : ((j : Int) - q - 1).toNat = j - q - 1 := by omega
        have hlt2 : (j : Int) - q - 1 < 4 := by omega
        have hge2 : 0 ≤ (j : Int) - q - 1 := by omega
        have bx2 := hx (j - q - 1)
        have hcx2 : ax[j - q - 1]? = some (.int .u64 (x (j - q - 1))) := by rw [Array.getElem?_eq_getElem (by omega), gx _ (by omega)]
        have HV : Hid (shlL x q r j = bits BinOp.or IntKind.u64 (IntKind.u64.wrap (x (j - q) * 2 ^ r)) (x (j - q - 1) / 2 ^ (64 - r))) := by show _ = _; unfold shlL; rw [if_pos hqj, if_pos hqq]
        clear hss gx hx
        go_wp2
        go_region
        go_wp2
        go_roundw
        case rel => refine ⟨j + 1, m + 1, ss.setIfInBounds j (.int .u64 (shlL x q r j)), by omega, by go_num, Or.inl (by omega), by simp [hsz], HR.out, ?_⟩; rw [HV.out]
        case measure => simp [intOf]; omega
      · have hqq' : ¬ (q : Int) < j := by omega
        have HV : Hid (shlL x q r j = IntKind.u64.wrap (x (j - q) * 2 ^ r)) := by show _ = _; unfold shlL; rw [if_pos hqj, if_neg hqq]
        clear hss gx hx
        go_wp2
        go_roundw
        case rel => refine ⟨j + 1, m, ss.setIfInBounds j (.int .u64 (shlL x q r j)), by omega, by go_num, Or.inl (by omega), by simp [hsz], HR.out, ?_⟩; rw [HV.out]
        case measure => simp [intOf]; omega
    · have h8i : ¬ (j : Int) < 4 := by omega
      have hss' : ∀ k h, ss[k]'h = Value.int .u64 (shlL x q r k) := by
        intro k h; rw [hss k h, if_pos (by omega)]
      clear hss gx
      go_wp2
      exact bodyPost_ret (v := .agg (arrOf (shlL x q r) 4)) (by simp [results, Tryd.results45, go_sem]; rfl) rfl ⟨rfl, below_alloc3 _ _ _ _ _⟩
theorem limShl4_0 (x : Nat → Int) (n : Int) (w : World) (hn : n < 1) :
    Calls Tryd.prog 45 #[.agg (arrOf x 4), .int .i64 n] w fun e w' => e = .returned (.agg (arrOf x 4)) ∧ Below w.heap.size w w' := by
  have sx : (arrOf x 4).size = 4 := arrOf_size x 4
  have gx := fun i h => arrOf_get x 4 i h
  have hl : arrOf x 4 = #[.int .u64 (x 0), .int .u64 (x 1), .int .u64 (x 2), .int .u64 (x 3)] := rfl
  rw [hl]
  rw [hl] at sx gx
  clear gx sx
  go_enter Tryd.func45, Tryd.ntmps45
  go_wp2
  exact bodyPost_ret (v := .agg #[.int .u64 (x 0), .int .u64 (x 1), .int .u64 (x 2), .int .u64 (x 3)]) (by simp [results, Tryd.results45, go_sem]) rfl ⟨rfl, ((Below.refl _ _).alloc (Nat.le_refl _) _).alloc (by simp) _⟩

theorem limShr4 (x : Nat → Int) (n : Int) (q r : Nat) (w : World) (hx : Words x) (hn : 1 ≤ n) (hn2 : n ≤ 9223372036854775807) (hq : n / 64 = q) (hr : n % 64 = r) (hr6 : r < 64) :
    Calls Tryd.prog 43 #[.agg (arrOf x 4), .int .i64 n] w fun e w' => e = .returned (.agg (arrOf (shrL x q r 4) 4)) ∧ Below w.heap.size w w' := by
  have sx : (arrOf x 4).size = 4 := arrOf_size x 4
  have gx := fun i h => arrOf_get x 4 i h
  generalize arrOf x 4 = ax at *
  have hn1 : ¬ n < 1 := by omega
  go_enter Tryd.func43, Tryd.ntmps43
  go_wp2
  go_loopw [8] (fun i wr => ∃ (j m : Nat) (ss : Array Value), q ≤ j ∧ i = .int .i64 j ∧ (j ≤ 4 ∨ j = q) ∧ ss.size = 4 ∧ (∀ k h, ss[k]'h = Value.int .u64 (if k < j - q then shrL x q r 4 k else 0)) ∧ wr = ((((w.alloc (.cells ax 24)).alloc (.cells #[.int .u64 0, .int .u64 0, .int .u64 0, .int .u64 0] 24)).alloc (.cells ss 24)).drewN m)) (fun i _ => 4 - (intOf i).toNat)
  case atStart => exact ⟨q, 0, _, Nat.le_refl _, rfl, Or.inr rfl, rfl, by intro k h; have h' : k < 4 := h; rw [if_neg (by omega)]; match k, h' with | 0, _ => rfl | 1, _ => rfl | 2, _ => rfl | 3, _ => rfl, rfl⟩
  case round =>
    obtain ⟨j, m, ss, hqj, rfl, hj, hsz, hss, rfl⟩ := hrel
    by_cases h8 : j < 4
    · have h8i : (j : Int) < 4 := by omega
      have h8s : j - q < ss.size := by omega
      have hqi : (q : Int) ≤ j := by omega
      have e1 : ((j : Int) - q).toNat = j - q := by omega
      have hlt : (j : Int) - q < 4 := by omega
      have hge : 0 ≤ (j : Int) - q := by omega
      have bx := hx j
      have hcx : ax[j]? = some (.int .u64 (x j)) := by rw [Array.getElem?_eq_getElem (by omega), gx _ (by omega)]
      have hcx' : ∀ h, ax[j]'h = .int .u64 (x j) := fun h => gx j h
      have hsk : ss[j - q]? = some (.int .u64 0) := by rw [Array.getElem?_eq_getElem h8s, hss _ h8s, if_neg (by omega)]
      have HR0 : ∀ (i : Nat) (h : i < (ss.setIfInBounds (j - q) (.int .u64 (shrL x q r 4 (j - q)))).size), (ss.setIfInBounds (j - q) (.int .u64 (shrL x q r 4 (j - q))))[i]'h = Value.int .u64 (if i < (j - q) + 1 then shrL x q r 4 i else 0) := set_next hss
      have HR : Hid (∀ (i : Nat) (h : i < (ss.setIfInBounds (j - q) (.int .u64 (shrL x q r 4 (j - q)))).size), (ss.setIfInBounds (j - q) (.int .u64 (shrL x q r 4 (j - q))))[i]'h = Value.int .u64 (if i < j + 1 - q then shrL x q r 4 i else 0)) := by
        intro i h; rw [HR0 i h, show j - q + 1 = j + 1 - q by omega]
      clear HR0
      have ejq : q + (j - q) = j := by omega
      have hget : ∀ v : Value, (ss.setIfInBounds (j - q) v)[j - q]? = some v := fun v => by rw [Array.getElem?_setIfInBounds_self_of_lt h8s]
      by_cases hqq : j + 1 < 4
      · have hqq' : (j : Int) + 1 < 4 := by omega
        have bx2 := hx (j + 1)
        have e2 : ((j : Int) + 1).toNat = j + 1 := by omega
        have hcx2 : ax[j + 1]? = some (.int .u64 (x (j + 1))) := by rw [Array.getElem?_eq_getElem (by omega), gx _ (by omega)]
        have hcx2' : ∀ h, ax[j + 1]'h = .int .u64 (x (j + 1)) := fun h => gx (j + 1) h
        have HV : Hid (shrL x q r 4 (j - q) = bits BinOp.or IntKind.u64 (x j / 2 ^ r) (IntKind.u64.wrap (x (j + 1) * 2 ^ (64 - r)))) := by show _ = _; unfold shrL; rw [ejq, if_pos h8, if_pos hqq]
        clear hss gx hx ejq
        go_wp2
        go_region
        go_wp2
        go_roundw
        case rel => refine ⟨j + 1, m + 1, ss.setIfInBounds (j - q) (.int .u64 (shrL x q r 4 (j - q))), by omega, by go_num, Or.inl (by omega), by simp [hsz], HR.out, ?_⟩; rw [HV.out]
        case measure => simp [intOf]; omega
      · have hqq' : ¬ (j : Int) + 1 < 4 := by omega
        have HV : Hid (shrL x q r 4 (j - q) = x j / 2 ^ r) := by show _ = _; unfold shrL; rw [ejq, if_pos h8, if_neg hqq]
        clear hss gx hx ejq
        go_wp2
        go_roundw
        case rel => refine ⟨j + 1, m, ss.setIfInBounds (j - q) (.int .u64 (shrL x q r 4 (j - q))), by omega, by go_num, Or.inl (by omega), by simp [hsz], HR.out, ?_⟩; rw [HV.out]
        case measure => simp [intOf]; omega
    · have h8i : ¬ (j : Int) < 4 := by omega
      have hss' : ∀ k h, ss[k]'h = Value.int .u64 (shrL x q r 4 k) := by
        intro k h; rw [hss k h]
        split
        · rfl
        · unfold shrL; rw [if_neg (by omega)]
      clear hss gx
      go_wp2
      exact bodyPost_ret (v := .agg (arrOf (shrL x q r 4) 4)) (by simp [results, Tryd.results43, go_sem]; rfl) rfl ⟨rfl, below_alloc3 _ _ _ _ _⟩
theorem limShr4_0 (x : Nat → Int) (n : Int) (w : World) (hn : n < 1) :
    Calls Tryd.prog 43 #[.agg (arrOf x 4), .int .i64 n] w fun e w' => e = .returned (.agg (arrOf x 4)) ∧ Below w.heap.size w w' := by
  have sx : (arrOf x 4).size = 4 := arrOf_size x 4
  have gx := fun i h => arrOf_get x 4 i h
  have hl : arrOf x 4 = #[.int .u64 (x 0), .int .u64 (x 1), .int .u64 (x 2), .int .u64 (x 3)] := rfl
  rw [hl]
  rw [hl] at sx gx
  clear gx sx
  go_enter Tryd.func43, Tryd.ntmps43
  go_wp2
  exact bodyPost_ret (v := .agg #[.int .u64 (x 0), .int .u64 (x 1), .int .u64 (x 2), .int .u64 (x 3)]) (by simp [results, Tryd.results43, go_sem]) rfl ⟨rfl, ((Below.refl _ _).alloc (Nat.le_refl _) _).alloc (by simp) _⟩

theorem lenL_succ (x : Nat → Int) (n : Nat) : lenL x (n + 1) = if x n = 0 then lenL x n else 64 * (n : Int) + Lib.bitLen (x n).toNat := by
  by_cases h : x n = 0
  · simp [lenL, sizeL, h]
  · simp [lenL, sizeL, h]; omega

theorem limLen4 (cs : Array Value) (x : Nat → Int) (w : World) (hx : ∀ i, 0 ≤ x i ∧ x i ≤ 18446744073709551615) (hsz : cs.size = 4) (hc : ∀ i, i < 4 → cs[i]? = some (.int .u64 (x i))) :
    Calls Tryd.prog 46 #[.agg cs] w fun e w' => e = .returned (.int .i64 (lenL x 4)) ∧ w' = w.alloc (.cells cs 24) := by
  go_enter Tryd.func46, Tryd.ntmps46
  go_wp2
  go_loop [3] (fun t => ∃ k : Nat, k ≤ 4 ∧ lenL x k = lenL x 4 ∧ t = .int .i64 ((k : Int) - 1)) (fun t => (intOf t + 1).toNat)
  case atStart => exact ⟨4, Nat.le_refl _, rfl, rfl⟩
  case round =>
    obtain ⟨k, hk, hs, rfl⟩ := hrel
    by_cases h0 : k = 0
    · subst h0
      have HS : Hid (lenL x 4 = 0) := hs.symm
      clear hs
      go_wp2
      go_ret
      exact ⟨ret_int HS.out.symm, rfl⟩
    · obtain ⟨j, rfl⟩ : ∃ j, k = j + 1 := ⟨k - 1, by omega⟩
      have hcj := hc j (by omega)
      have hb := hx j
      have hbl := bitLen64 (x j).toNat
      have hj8 : (j : Int) < 4 := by omega
      have ej : ((j + 1 : Nat) : Int) - 1 = j := by omega
      rw [ej]
      by_cases hz : x j = 0
      · have HS : Hid (lenL x j = lenL x 4) := by
          have := lenL_succ x j
          rw [if_pos hz] at this
          exact this.symm.trans hs
        clear hs hc hx
        go_wp2
        go_round
        case rel => exact ⟨j, by omega, HS.out, by go_num⟩
        case measure => simp [intOf]
      · have HS : Hid (64 * (j : Int) + Lib.bitLen (x j).toNat = lenL x 4) := by
          have := lenL_succ x j
          rw [if_neg hz] at this
          exact this.symm.trans hs
        have hcl := Tryd.bits_Len64 (x j) (w.alloc (.cells cs 24)) hb.1 hb.2
        clear hs hc hx
        generalize Lib.bitLen (x j).toNat = L at *
        go_wp2_with (go_at_call 51; refine hcl.mono ?_; rintro e w' ⟨rfl, rfl⟩)
        go_ret
        exact ⟨ret_int (by rw [← HS.out]; omega), rfl⟩

def bitV (v n : Int) : Int := bits BinOp.and IntKind.u64 (v / 2 ^ (n % 64).toNat) 1

theorem limBit4 (x : Nat → Int) (n : Int) (w : World) (hx : Words x) (h0 : 0 ≤ n) (h1 : n < 256) :
    Calls Tryd.prog 42 #[.agg (arrOf x 4), .int .i64 n] w fun e w' => e = .returned (.int .u64 (bitV (x (n / 64).toNat) n)) ∧ Below w.heap.size w w' := by
  have hsz : (arrOf x 4).size = 4 := arrOf_size x 4
  have hc : ∀ h, (arrOf x 4)[(n / 64).toNat]'h = .int .u64 (x (n / 64).toNat) := fun h => arrOf_get x 4 _ h
  have hb := hx (n / 64).toNat
  generalize arrOf x 4 = cs at *
  generalize hv : x (n / 64).toNat = v at *
  clear hv
  have hj : n / 64 < 4 := by omega
  have hj0 : 0 ≤ n / 64 := by omega
  have hm : n % 64 < 64 := by omega
  have hm0 : 0 ≤ n % 64 := by omega
  go_enter Tryd.func42, Tryd.ntmps42
  go_wp2
  go_ret
  exact ⟨rfl, (Below.refl _ _).alloc (Nat.le_refl _) _⟩

theorem len4 (x : Nat → Int) (w : World) (hx : Words x) : Calls Tryd.prog 46 #[.agg (arrOf x 4)] w fun e w' => e = .returned (.int .i64 (lenL x 4)) ∧ Below w.heap.size w w' :=
  (limLen4 (arrOf x 4) x w hx (by simp) (fun i h => arrOf_get? x 4 i h)).mono fun _ _ ⟨h1, h2⟩ => ⟨h1, by rw [h2]; exact (Below.refl _ _).alloc (Nat.le_refl _) _⟩
def shlA (x : Nat → Int) (n : Int) (j : Nat) : Int := if n < 1 then x j else shlL x (n / 64).toNat (n % 64).toNat j
def shrA (x : Nat → Int) (n : Int) (N j : Nat) : Int := if n < 1 then x j else shrL x (n / 64).toNat (n % 64).toNat N j
theorem lowW_lt {x : Nat → Int} {N i : Nat} (h : i < N) : lowW x N i = x i := by unfold lowW; rw [if_pos h]
theorem lowW_ge {x : Nat → Int} {N i : Nat} (h : N ≤ i) : lowW x N i = 0 := by unfold lowW; rw [if_neg (by omega)]
theorem div64_zero (a : Int) (h : 0 ≤ a ∧ a ≤ 18446744073709551615) : a / 2 ^ (64 - 0) = 0 := by
  have e : (2 : Int) ^ (64 - 0) = 18446744073709551616 := by decide
  rw [e]; omega
theorem wrap64_zero (a : Int) : IntKind.u64.wrap (a * 2 ^ (64 - 0)) = 0 := by
  have e : (2 : Int) ^ (64 - 0) = 18446744073709551616 := by decide
  rw [e]
  simp only [IntKind.wrap, IntKind.bits, IntKind.signed]
  simp
theorem shlL_fin {x : Nat → Int} (hx : Words x) {N : Nat} (q r : Nat) : lowW (shlL x q r) N = lowW (finL (lowW x N) q r) N := by
  funext j
  by_cases hj : j < N
  · rw [lowW_lt hj, lowW_lt hj]
    unfold shlL finL
    by_cases hq : q ≤ j
    · rw [if_pos hq, if_pos hq, lowW_lt (x := x) (N := N) (i := j - q) (by omega)]
      by_cases h : q < j
      · rw [if_pos h]
        have e : lowp (lowW x N) q r j = x (j - q - 1) / 2 ^ (64 - r) := by
          unfold lowp
          rw [lowW_lt (x := x) (N := N) (i := j - q - 1) (by omega)]
          by_cases hr : 0 < r
          · rw [if_pos ⟨by omega, hr⟩]
          · have hr0 : r = 0 := by omega
            subst hr0
            rw [if_neg (by omega), div64_zero _ (hx _)]
        rw [e]
        exact orW_comm _ _ (wrap_word _) (div_word _ _ (hx _))
      · rw [if_neg h]
        have e : lowp (lowW x N) q r j = 0 := by unfold lowp; rw [if_neg (by omega)]
        rw [e, zero_orW _ (wrap_word _)]
    · rw [if_neg hq, if_neg hq]
  · rw [lowW_ge (by omega), lowW_ge (by omega)]
theorem shrL_fin {x : Nat → Int} (hx : Words x) {N : Nat} (q r : Nat) : lowW (shrL x q r N) N = shrW (lowW x N) q r := by
  funext j
  by_cases hj : j < N
  · rw [lowW_lt hj]
    by_cases hq : q + j < N
    · unfold shrL shrW
      rw [if_pos hq, lowW_lt hq]
      by_cases hr : r = 0
      · subst hr
        rw [if_pos rfl]
        have e : x (q + j) / 2 ^ 0 = x (q + j) := by simp
        rw [e, wrap64_zero]
        by_cases h : q + j + 1 < N
        · rw [if_pos h]; exact orW_zero _ (hx _)
        · rw [if_neg h]
      · rw [if_neg hr]
        by_cases h : q + j + 1 < N
        · rw [if_pos h, lowW_lt h]; rfl
        · rw [if_neg h, lowW_ge (x := x) (N := N) (i := q + j + 1) (by omega), Int.zero_mul]
          rw [show IntKind.u64.wrap 0 = 0 by decide, orW_zero _ (div_word _ _ (hx _))]
    · rw [shrW_zero (n := N) (fun i hi => lowW_ge hi) q r j (by omega)]
      unfold shrL; rw [if_neg hq]
  · rw [lowW_ge (by omega), shrW_zero (n := N) (fun i hi => lowW_ge hi) q r j (by omega)]
theorem shlA_words {x : Nat → Int} (hx : Words x) (n : Int) : Words (shlA x n) := fun j => by
  unfold shlA; split
  · exact hx j
  · unfold shlL; split
    · split
      · exact orW_word _ _ (wrap_word _) (div_word _ _ (hx _))
      · exact wrap_word _
    · decide
theorem shrA_words {x : Nat → Int} (hx : Words x) (n : Int) (N : Nat) : Words (shrA x n N) := fun j => by
  unfold shrA; split
  · exact hx j
  · unfold shrL; split
    · split
      · exact orW_word _ _ (div_word _ _ (hx _)) (wrap_word _)
      · exact div_word _ _ (hx _)
    · decide
theorem shlA4 (x : Nat → Int) (n : Int) (w : World) (hx : Words x) (hn2 : n ≤ 9223372036854775807) :
    Calls Tryd.prog 45 #[.agg (arrOf x 4), .int .i64 n] w fun e w' => e = .returned (.agg (arrOf (shlA x n) 4)) ∧ Below w.heap.size w w' := by
  by_cases h1 : n < 1
  · have e : shlA x n = x := by funext j; unfold shlA; rw [if_pos h1]
    rw [e]; exact limShl4_0 x n w h1
  · have e : shlA x n = shlL x (n / 64).toNat (n % 64).toNat := by funext j; unfold shlA; rw [if_neg h1]
    rw [e]; exact limShl4 x n _ _ w hx (by omega) hn2 (by omega) (by omega) (by omega)
theorem shrA4 (x : Nat → Int) (n : Int) (w : World) (hx : Words x) (hn2 : n ≤ 9223372036854775807) :
    Calls Tryd.prog 43 #[.agg (arrOf x 4), .int .i64 n] w fun e w' => e = .returned (.agg (arrOf (shrA x n 4) 4)) ∧ Below w.heap.size w w' := by
  by_cases h1 : n < 1
  · have e : shrA x n 4 = x := by funext j; unfold shrA; rw [if_pos h1]
    rw [e]; exact limShr4_0 x n w h1
  · have e : shrA x n 4 = shrL x (n / 64).toNat (n % 64).toNat 4 := by funext j; unfold shrA; rw [if_neg h1]
    rw [e]; exact limShr4 x n _ _ w hx (by omega) hn2 (by omega) (by omega) (by omega)
end
/-- block g is N words, those of x, none of them frozen -/
def Own (g N : Nat) (x : Nat → Int) (w : World) : Prop := w.heap[g]? = some (.cells (arrOf x N) 22)
/-- all but block g is as it was (the count of draws aside) -/
structure Upd (g : Nat) (w w' : World) : Prop where
  os : w'.os = w.os
  tape : w'.tape = w.tape
  output : w'.output = w.output
  size : w'.heap.size = w.heap.size
  block : ∀ k, k ≠ g → w'.heap[k]? = w.heap[k]?
theorem Upd.refl (g : Nat) (w : World) : Upd g w w := ⟨rfl, rfl, rfl, rfl, fun _ _ => rfl⟩
theorem Upd.trans {g : Nat} {a b c : World} (h : Upd g a b) (k : Upd g b c) : Upd g a c :=
  ⟨k.os.trans h.os, k.tape.trans h.tape, k.output.trans h.output, k.size.trans h.size, fun i hi => (k.block i hi).trans (h.block i hi)⟩
theorem Upd.drewN {g : Nat} {a b : World} (h : Upd g a b) (m : Nat) : Upd g a (b.drewN m) := ⟨h.os, h.tape, h.output, h.size, h.block⟩
theorem Upd.drew {g : Nat} {a b : World} (h : Upd g a b) : Upd g a b.drew := ⟨h.os, h.tape, h.output, h.size, h.block⟩
theorem Upd.set {g : Nat} {a b : World} (h : Upd g a b) (i : Nat) (v : Value) : Upd g a (b.setCell ⟨g, i, none⟩ v) :=
  h.trans ⟨rfl, rfl, rfl, by simp [World.setCell], fun k hk => Below.heap_setCell _ _ _ _ hk⟩
theorem Upd.below {g B : Nat} {w w' : World} (h : Upd g w w') (hB : B ≤ g) : Below B w w' := ⟨h.os, h.tape, h.output, Nat.le_of_eq h.size.symm, fun k hk => h.block k (by omega)⟩
theorem Upd.num {g : Nat} {w w' : World} {b off n c : Nat} {x : Nat → Int} (h : Upd g w w') (hb : b ≠ g) (hN : Num w (some ⟨b, off, none⟩) n c x) : Num w' (some ⟨b, off, none⟩) n c x := by
  obtain ⟨h1, h2, h3, h4, h5⟩ := hN
  refine ⟨h1, h2, h3, h4, ?_⟩
  rcases h5 with ⟨h5, _⟩ | ⟨b', off', h6, h7, h8⟩
  · cases h5
  · cases h6
    exact Or.inr ⟨b, off, rfl, by rw [h.size]; exact h7, fun i hi => (World.cell?_of_block (w := w) (a := ⟨b, off + i, none⟩) (h.block b hb)).trans (h8 i hi)⟩
/-- a number that lies elsewhere stays -/
def Apart (a : Option Addr) (g : Nat) : Prop := ∀ p, a = some p → p.block ≠ g
theorem Upd.num' {g : Nat} {w w' : World} {a : Option Addr} {n c : Nat} {x : Nat → Int} (h : Upd g w w') (hb : Apart a g) (hN : Num w a n c x) : Num w' a n c x := by
  have hN' := hN
  obtain ⟨h1, h2, h3, h4, h5⟩ := hN'
  rcases h5 with ⟨rfl, rfl⟩ | ⟨b', off', rfl, h7, h8⟩
  · exact ⟨h1, h2, h3, h4, Or.inl ⟨rfl, rfl⟩⟩
  · exact h.num (hb _ rfl) hN
theorem Upd.own {g g' N : Nat} {w w' : World} {x : Nat → Int} (h : Upd g w w') (hb : g' ≠ g) (hN : Own g' N x w) : Own g' N x w' := (h.block g' hb).trans hN
theorem Below.own {B g N : Nat} {w w' : World} {x : Nat → Int} (h : Below B w w') (hb : g < B) (hN : Own g N x w) : Own g N x w' := (h.block g hb).trans hN

theorem Own.lt {g N : Nat} {x : Nat → Int} {w : World} (h : Own g N x w) : g < w.heap.size := by
  rcases Nat.lt_or_ge g w.heap.size with h' | h'
  · exact h'
  · unfold Own at h; rw [Array.getElem?_eq_none h'] at h; cases h
theorem Own.cell {g N : Nat} {x : Nat → Int} {w : World} (h : Own g N x w) (i : Nat) (hi : i < N) : w.cell? ⟨g, i, none⟩ = some (.int .u64 (x i)) := by
  unfold World.cell?
  have hh : w.heap[g]? = some (.cells (arrOf x N) 22) := h
  simp [hh, arrOf_get? x N i hi]
theorem Own.frozen {g N : Nat} {x : Nat → Int} {w : World} (h : Own g N x w) (i : Nat) : w.frozen? ⟨g, i, none⟩ = false := by
  unfold World.frozen?
  have hh : w.heap[g]? = some (.cells (arrOf x N) 22) := h
  simp [hh]
theorem Own.set {g N : Nat} {x : Nat → Int} {w : World} (h : Own g N x w) (i : Nat) (v : Int) : Own g N (fun j => if j = i then v else x j) (w.setCell ⟨g, i, none⟩ (.int .u64 v)) := by
  have hh : w.heap[g]? = some (.cells (arrOf x N) 22) := h
  show (w.setCell ⟨g, i, none⟩ (.int .u64 v)).heap[g]? = _
  simp only [World.setCell, Array.getElem?_modify, if_true, hh]
  simp [arrOf_set]
theorem Own.congr {g N : Nat} {x y : Nat → Int} {w : World} (h : Own g N x w) (e : ∀ i, i < N → x i = y i) : Own g N y w := by
  unfold Own; rw [← arrOf_congr e]; exact h
theorem Own.new (w : World) (x : Nat → Int) (N : Nat) : Own w.heap.size N x (w.alloc (.cells (arrOf x N) 22)) := (MapKept.heap_alloc w _).1
/-- words off to off + m of the block, as a number -/
def segW (x : Nat → Int) (off m i : Nat) : Int := if i < m then x (off + i) else 0
theorem segW_words {x : Nat → Int} (hx : Words x) (off m : Nat) : Words (segW x off m) := fun i => by unfold segW; split; exact hx _; decide
theorem segW_zero (x : Nat → Int) (off m i : Nat) (h : m ≤ i) : segW x off m i = 0 := by unfold segW; rw [if_neg (by omega)]
theorem segW_lt (x : Nat → Int) (off m i : Nat) (h : i < m) : segW x off m i = x (off + i) := by unfold segW; rw [if_pos h]
theorem Own.num {g N : Nat} {x : Nat → Int} {w : World} (h : Own g N x w) (hx : Words x) (off m c : Nat) (hm : off + m ≤ N) (hc : m ≤ c) (hc2 : c ≤ maxLen) : Num w (some ⟨g, off, none⟩) m c (segW x off m) :=
  ⟨hc, hc2, segW_words hx off m, fun i hi => segW_zero x off m i hi, Or.inr ⟨g, off, rfl, h.lt, fun i hi => by rw [h.cell (off + i) (by omega), segW_lt x off m i hi]⟩⟩
section
attribute [local go_sem] setCell_drewN alloc_drewN

theorem quoW_words {x : Nat → Int} {d : Int} (hx : Words x) (hd : 0 < d) (n : Nat) : Words (quoW x d n) := fun j => by
  have hr := remJ_bd x d n (n - 1 - j) hd
  have hb := hx j
  unfold quoW
  refine ⟨Int.ediv_nonneg (by omega) (by omega), ?_⟩
  have : (remJ x d n (n - 1 - j) * 18446744073709551616 + x j) / d < 18446744073709551616 := by
    apply Int.ediv_lt_of_lt_mul hd
    rw [Int.mul_comm 18446744073709551616 d]
    have : (remJ x d n (n - 1 - j) + 1) * 18446744073709551616 ≤ d * 18446744073709551616 := Int.mul_le_mul_of_nonneg_right (by omega) (by decide)
    omega
  omega
theorem div_val (x : Nat → Int) (d : Int) (n : Nat) : ∀ j, j ≤ n → val x (n - j) + remJ x d n j * 18446744073709551616 ^ (n - j) + d * (val (quoW x d n) n - val (quoW x d n) (n - j)) = val x n
  | 0, _ => by simp [remJ]
  | j + 1, h => by
    have ih := div_val x d n j (by omega)
    obtain ⟨k, hk⟩ : ∃ k, n - j = k + 1 := ⟨n - j - 1, by omega⟩
    have hk2 : n - (j + 1) = k := by omega
    have hk3 : n - 1 - j = k := by omega
    have hk4 : n - 1 - k = j := by omega
    rw [hk] at ih
    rw [hk2]
    have hq : quoW x d n k = (remJ x d n j * 18446744073709551616 + x k) / d := by unfold quoW; rw [hk4]
    have hr : remJ x d n (j + 1) = (remJ x d n j * 18446744073709551616 + x k) % d := by simp only [remJ]; rw [hk3]
    have hdm := Int.mul_ediv_add_emod (remJ x d n j * 18446744073709551616 + x k) d
    rw [← hq, ← hr] at hdm
    simp only [val] at ih
    rw [Int.pow_succ] at ih
    generalize (18446744073709551616 : Int) ^ k = p at *
    generalize remJ x d n (j + 1) = r' at *
    generalize remJ x d n j = r at *
    generalize quoW x d n k = q at *
    have e1 : x k = d * q + r' - r * 18446744073709551616 := by omega
    rw [e1] at ih
    grind
theorem sum_val {x y : Nat → Int} : ∀ n, val (sumW x y) n + carryW x y n * 18446744073709551616 ^ n = val x n + val y n
  | 0 => by simp [val, carryW]
  | n + 1 => by
    have ih := sum_val (x := x) (y := y) n
    have e1 : sumW x y n + carryW x y (n + 1) * 18446744073709551616 = x n + y n + carryW x y n := by simp only [sumW, carryW]; omega
    simp only [val]
    rw [Int.pow_succ]
    generalize (18446744073709551616 : Int) ^ n = p at *
    generalize carryW x y (n + 1) = c' at *
    have e2 : sumW x y n = x n + y n + carryW x y n - c' * 18446744073709551616 := by omega
    rw [e2]
    grind
set_option maxHeartbeats 400000 in
theorem limDiv_ok (x : Nat → Int) (d : Int) (n : Nat) (hx : Words x) (hd : 0 < d ∧ d ≤ 18446744073709551615) (j : Nat) (hj : j < n) (w : World) : Calls Tryd.prog 85 #[.int .u64 (remJ x d n (n - 1 - j)), .int .u64 (x j), .int .u64 d] w fun e w' => e = .returned (.tuple #[.int .u64 (quoW x d n j), .int .u64 (remJ x d n (n - j))]) ∧ ∃ m, w' = w.drewN m := by
  have hr := remJ_bd x d n (n - 1 - j) hd.1
  have h := div64_all (remJ x d n (n - 1 - j)) (x j) d w hr.1 hr.2 hd.2 (hx j)
  have e1 : remJ x d n (n - j) = (remJ x d n (n - 1 - j) * 18446744073709551616 + x j) % d := by
    obtain ⟨k, hk⟩ : ∃ k, n - j = k + 1 := ⟨n - j - 1, by omega⟩
    rw [hk, show n - 1 - j = k by omega]
    simp only [remJ]; rw [show n - 1 - k = j by omega]
  rw [e1]; exact h
end
section
/-- the quotient's words from word k on, the number's own below it -/
def divZ (x : Nat → Int) (d : Int) (m k i : Nat) : Int := if k ≤ i ∧ i < m then quoW x d m i else x i

set_option maxHeartbeats 1000000 in
theorem divideBy_any (g N m c : Nat) (x : Nat → Int) (d : Int) (w : World) (hm : m ≤ N) (hm2 : m < 4294967296) (hx : Words x) (hd : 0 < d ∧ d ≤ 18446744073709551615) (h : Own g N x w) :
    Calls Tryd.prog 80 #[.slice (some ⟨g, 0, none⟩) m c, .int .u64 d] w fun e w' => e = .returned (.int .u64 (remJ x d m m)) ∧ Own g N (divZ x d m 0) w' ∧ Upd g w w' := by
  have H := fun j hj w => limDiv_ok x d m hx hd j hj w
  have hd0 : (d == 0) = false := by simp; omega
  go_enter Tryd.func80, Tryd.ntmps80
  go_wp2
  go_loopw [5, 6, 14] (fun c i u14 wr => ∃ (k : Nat), k ≤ m ∧ i = .int .i64 ((k : Int) - 1) ∧ c = .int .u64 (remJ x d m (m - k)) ∧ Own g N (divZ x d m k) wr ∧ Upd g w wr) (fun _ i _ _ => (intOf i + 1).toNat)
  case atStart => exact ⟨m, Nat.le_refl _, rfl, by rw [Nat.sub_self]; rfl, h.congr fun i _ => by unfold divZ; rw [if_neg (by omega)], Upd.refl _ _⟩
  case round =>
    obtain ⟨k, hk, rfl, rfl, hO, hU⟩ := hrel
    by_cases h0 : k = 0
    · subst h0
      have HO : Hid (Own g N (divZ x d m 0) wr) := hO
      have HU : Hid (Upd g w wr) := hU
      clear hO hU H
      go_wp2
      go_ret
      exact ⟨rfl, HO.out, HU.out⟩
    · obtain ⟨j, rfl⟩ : ∃ j, k = j + 1 := ⟨k - 1, by omega⟩
      have hjm : (j : Int) < m := by omega
      have ej : ((j + 1 : Nat) : Int) - 1 = j := by omega
      have ej2 : m - (j + 1) = m - 1 - j := by omega
      rw [ej, ej2]
      have hcj := hO.cell j (by omega)
      have hzj : divZ x d m (j + 1) j = x j := by unfold divZ; rw [if_neg (by omega)]
      rw [hzj] at hcj
      have hfj := hO.frozen j
      have HJ := H j (by omega)
      have HO : Hid (Own g N (divZ x d m j) (wr.setCell ⟨g, j, none⟩ (.int .u64 (quoW x d m j)))) := (hO.set j (quoW x d m j)).congr fun i hi => by
        unfold divZ
        by_cases e : i = j
        · subst e; rw [if_pos rfl, if_pos (by omega)]
        · rw [if_neg e]
          by_cases e2 : j + 1 ≤ i ∧ i < m
          · rw [if_pos e2, if_pos (by omega)]
          · rw [if_neg e2, if_neg (by omega)]
      have HU : Hid (Upd g w (wr.setCell ⟨g, j, none⟩ (.int .u64 (quoW x d m j)))) := hU.set j _
      clear hO hU H ej ej2 hzj
      go_wp2_with (go_at_call 85; refine (HJ _).mono ?_; rintro e w' ⟨rfl, m', rfl⟩)
      go_roundw
      case rel => exact ⟨j, by omega, by go_num, rfl, HO.out, HU.out.drewN m'⟩
      case measure => simp [intOf]
end
section
theorem sizeL_congr {x y : Nat → Int} : ∀ n, (∀ i, i < n → x i = y i) → sizeL x n = sizeL y n
  | 0, _ => rfl
  | n + 1, h => by simp only [sizeL]; rw [h n (by omega), sizeL_congr n fun i hi => h i (by omega)]
theorem val_bare {x : Nat → Int} (m : Nat) : val x (sizeL x m) = val x m := by
  have h1 := val_more (sizeL_zero m fun i hi => segW_zero x 0 m i hi) m (sizeL_le _ m)
  have h2 : sizeL (segW x 0 m) m = sizeL x m := sizeL_congr m fun i hi => by rw [segW_lt x 0 m i hi, Nat.zero_add]
  rw [h2] at h1
  have hle := sizeL_le x m
  rw [val_congr (x := segW x 0 m) (y := x) m fun i hi => by rw [segW_lt x 0 m i hi, Nat.zero_add], val_congr (x := segW x 0 m) (y := x) (sizeL x m) fun i hi => by rw [segW_lt x 0 m i (by omega), Nat.zero_add]] at h1
  exact h1.symm

/-- -1, 0, 1 -/
def sgn (a b : Int) : Int := if a < b then -1 else if b < a then 1 else 0
theorem sgn_add (a b t : Int) : sgn (a + t) (b + t) = sgn a b := by
  unfold sgn
  by_cases h : a < b
  · rw [if_pos h, if_pos (by omega)]
  · rw [if_neg h, if_neg (by omega)]
    by_cases h' : b < a
    · rw [if_pos h', if_pos (by omega)]
    · rw [if_neg h', if_neg (by omega)]
theorem drw2 (w : World) (m a b : Nat) : ∃ k, w.drewN k = ((w.drewN m).drewN a).drewN b := ⟨m + a + b, by simp [World.drewN, Nat.add_assoc]⟩
theorem compare_u64 (a b : Int) (w : World) : Calls Tryd.prog 65 #[.int .u64 a, .int .u64 b] w fun e w' => e = .returned (.int .i64 (sgn a b)) ∧ w = w' := by
  have hN : ∀ (a : Int), Calls Tryd.prog 79 #[.int .u64 a] w fun e w' => e = .returned (.bool false) ∧ w = w' := by
    intro a
    go_enter Tryd.func79, Tryd.ntmps79
    go_wp2
    go_ret
    exact ⟨rfl, rfl⟩
  have ha := hN a
  have hb := hN b
  clear hN
  by_cases h1 : a < b
  · have HS : Hid (sgn a b = -1) := by show _ = _; unfold sgn; rw [if_pos h1]
    go_enter Tryd.func65, Tryd.ntmps65
    go_wp2_with (go_at_call 79; first | (refine ha.mono ?_; rintro e w' ⟨rfl, rfl⟩) | (refine hb.mono ?_; rintro e w' ⟨rfl, rfl⟩))
    go_ret
    exact ⟨ret_int HS.out.symm, rfl⟩
  · by_cases h2 : b < a
    · have HS : Hid (sgn a b = 1) := by show _ = _; unfold sgn; rw [if_neg h1, if_pos h2]
      go_enter Tryd.func65, Tryd.ntmps65
      go_wp2_with (go_at_call 79; first | (refine ha.mono ?_; rintro e w' ⟨rfl, rfl⟩) | (refine hb.mono ?_; rintro e w' ⟨rfl, rfl⟩))
      go_ret
      exact ⟨ret_int HS.out.symm, rfl⟩
    · have HS : Hid (sgn a b = 0) := by show _ = _; unfold sgn; rw [if_neg h1, if_neg h2]
      go_enter Tryd.func65, Tryd.ntmps65
      go_wp2_with (go_at_call 79; first | (refine ha.mono ?_; rintro e w' ⟨rfl, rfl⟩) | (refine hb.mono ?_; rintro e w' ⟨rfl, rfl⟩))
      go_ret
      exact ⟨ret_int HS.out.symm, rfl⟩
theorem compare_int (a b : Int) (w : World) : Calls Tryd.prog 64 #[.int .i64 a, .int .i64 b] w fun e w' => e = .returned (.int .i64 (sgn a b)) ∧ w = w' := by
  have hN : ∀ (a : Int), Calls Tryd.prog 78 #[.int .i64 a] w fun e w' => e = .returned (.bool false) ∧ w = w' := by
    intro a
    go_enter Tryd.func78, Tryd.ntmps78
    go_wp2
    go_ret
    exact ⟨rfl, rfl⟩
  have ha := hN a
  have hb := hN b
  clear hN
  by_cases h1 : a < b
  · have HS : Hid (sgn a b = -1) := by show _ = _; unfold sgn; rw [if_pos h1]
    go_enter Tryd.func64, Tryd.ntmps64
    go_wp2_with (go_at_call 78; first | (refine ha.mono ?_; rintro e w' ⟨rfl, rfl⟩) | (refine hb.mono ?_; rintro e w' ⟨rfl, rfl⟩))
    go_ret
    exact ⟨ret_int HS.out.symm, rfl⟩
  · by_cases h2 : b < a
    · have HS : Hid (sgn a b = 1) := by show _ = _; unfold sgn; rw [if_neg h1, if_pos h2]
      go_enter Tryd.func64, Tryd.ntmps64
      go_wp2_with (go_at_call 78; first | (refine ha.mono ?_; rintro e w' ⟨rfl, rfl⟩) | (refine hb.mono ?_; rintro e w' ⟨rfl, rfl⟩))
      go_ret
      exact ⟨ret_int HS.out.symm, rfl⟩
    · have HS : Hid (sgn a b = 0) := by show _ = _; unfold sgn; rw [if_neg h1, if_neg h2]
      go_enter Tryd.func64, Tryd.ntmps64
      go_wp2_with (go_at_call 78; first | (refine ha.mono ?_; rintro e w' ⟨rfl, rfl⟩) | (refine hb.mono ?_; rintro e w' ⟨rfl, rfl⟩))
      go_ret
      exact ⟨ret_int HS.out.symm, rfl⟩

/-- comparing words from the highest on is comparing values -/
theorem cmpL_val {x y : Nat → Int} (hx : Words x) (hy : Words y) : ∀ n, cmpL x y n = sgn (val x n) (val y n)
  | 0 => by simp [cmpL, sgn, val]
  | n + 1 => by
    have hxb := val_bd hx n
    have hyb := val_bd hy n
    have ih := cmpL_val hx hy n
    have hp := pw_pos n
    have e1 : val x (n + 1) = val x n + x n * 18446744073709551616 ^ n := rfl
    have e2 : val y (n + 1) = val y n + y n * 18446744073709551616 ^ n := rfl
    rw [e1, e2]
    simp only [cmpL]
    generalize (18446744073709551616 : Int) ^ n = P at *
    by_cases h1 : x n < y n
    · rw [if_pos h1]
      have : (x n + 1) * P ≤ y n * P := Int.mul_le_mul_of_nonneg_right (by omega) (by omega)
      rw [Int.add_mul, Int.one_mul] at this
      unfold sgn; rw [if_pos (by omega)]
    · rw [if_neg h1]
      by_cases h2 : y n < x n
      · rw [if_pos h2]
        have : (y n + 1) * P ≤ x n * P := Int.mul_le_mul_of_nonneg_right (by omega) (by omega)
        rw [Int.add_mul, Int.one_mul] at this
        unfold sgn; rw [if_neg (by omega), if_pos (by omega)]
      · have e : x n = y n := by omega
        rw [if_neg h2, ih, e, sgn_add]
/-- the longer one of two trimmed numbers is the greater -/
theorem val_longer {x y : Nat → Int} (hx : Words x) (hy : Words y) {n m : Nat} (h : n < m) (hm : sizeL y m = m) : val x n < val y m := by
  obtain ⟨k, rfl⟩ : ∃ k, m = k + 1 := ⟨m - 1, by omega⟩
  have hne : y k ≠ 0 := by
    intro e
    have : sizeL y (k + 1) = sizeL y k := by simp [sizeL, e]
    have := sizeL_le y k
    omega
  have h1 := (val_bd hx n).2
  have h2 := (val_bd hy k).1
  have h3 := pw_pos k
  have h4 := hy k
  have h5 : (18446744073709551616 : Int) ^ n ≤ 18446744073709551616 ^ k := by
    obtain ⟨q, rfl⟩ : ∃ q, k = n + q := ⟨k - n, by omega⟩
    rw [Int.pow_add]
    have := pw_pos n
    have := pw_pos q
    have : (18446744073709551616 : Int) ^ n * 1 ≤ 18446744073709551616 ^ n * 18446744073709551616 ^ q := Int.mul_le_mul_of_nonneg_left (by omega) (by omega)
    omega
  show _ < val y k + y k * 18446744073709551616 ^ k
  have : 1 * 18446744073709551616 ^ k ≤ y k * 18446744073709551616 ^ k := Int.mul_le_mul_of_nonneg_right (by omega) (by omega)
  omega

set_option maxHeartbeats 1000000 in
theorem ncmp_any (a a' : Option Addr) (n c n' c' : Nat) (x y : Nat → Int) (w : World) (hn : n < 4294967296) (hn' : n' < 4294967296) (h : Num w a n c x) (h' : Num w a' n' c' y) :
    Calls Tryd.prog 37 #[.slice a n c, .slice a' n' c'] w fun e w' => e = .returned (.int .i64 (sgn (val x n) (val y n'))) ∧ ∃ m, w.drewN m = w' := by
  have hb := bare_any a n c x w hn h
  have hb' := bare_any a' n' c' y w hn' h'
  rw [← val_bare n, ← val_bare n']
  have hx := h.2.2.1
  have hy := h'.2.2.1
  have h1 := sizeL_sizeL x n
  have h1' := sizeL_sizeL y n'
  have hle := sizeL_le x n
  have hle' := sizeL_le y n'
  have hN := h.bare
  have hN' := h'.bare
  generalize sizeL x n = s at *
  generalize sizeL y n' = s' at *
  have HV : Hid (∀ k, cmpL x y k = sgn (val x k) (val y k)) := cmpL_val hx hy
  have HL1 : Hid (s < s' → sgn (val x s) (val y s') = sgn s s') := fun hlt => by
    have := val_longer hx hy hlt h1'
    unfold sgn; rw [if_pos this, if_pos (by omega)]
  have HL2 : Hid (s' < s → sgn (val x s) (val y s') = sgn s s') := fun hlt => by
    have := val_longer hy hx hlt h1
    unfold sgn; rw [if_neg (by omega), if_pos this, if_neg (by omega), if_pos (by omega)]
  clear h h' h1 h1' hx hy
  by_cases e : s = s'
  · subst e
    have hc : ∀ i, i < s → ∃ b off, a = some ⟨b, off, none⟩ ∧ w.cell? ⟨b, off + i, none⟩ = some (.int .u64 (x i)) := by
      intro i hi
      have h5 := hN.2.2.2.2
      rcases h5 with ⟨_, h⟩ | ⟨b, off, h, _, hc⟩
      · have := hN.1; omega
      · exact ⟨b, off, h, hc i hi⟩
    have hc' : ∀ i, i < s → ∃ b off, a' = some ⟨b, off, none⟩ ∧ w.cell? ⟨b, off + i, none⟩ = some (.int .u64 (y i)) := by
      intro i hi
      have h5 := hN'.2.2.2.2
      rcases h5 with ⟨_, h⟩ | ⟨b, off, h, _, hc⟩
      · have := hN'.1; omega
      · exact ⟨b, off, h, hc i hi⟩
    clear hN hN' HL1 HL2
    go_enter Tryd.func37, Tryd.ntmps37
    go_wp2_with (first | (go_at_call_of 50 (Value.slice a n c); refine hb.mono ?_; rintro e w' ⟨rfl, rfl⟩) | (go_at_call_of 50 (Value.slice a' n' c'); refine hb'.mono ?_; rintro e w' ⟨rfl, rfl⟩))
    go_loopw [7] (fun t wr => ∃ k m : Nat, k ≤ s ∧ cmpL x y k = cmpL x y s ∧ t = .int .i64 ((k : Int) - 1) ∧ w.drewN m = wr) (fun t _ => (intOf t + 1).toNat)
    case atStart => exact ⟨s, 0, Nat.le_refl _, rfl, by go_num, rfl⟩
    case round =>
      obtain ⟨k, m, hk, hs, rfl, rfl⟩ := hrel
      by_cases h0 : k = 0
      · subst h0
        have HS : Hid (sgn (val x s) (val y s) = 0) := by show _ = _; rw [← HV.out, ← hs]; rfl
        clear hs hc hc'
        go_wp2
        go_ret
        exact ⟨ret_int HS.out.symm, _, rfl⟩
      · obtain ⟨j, rfl⟩ : ∃ j, k = j + 1 := ⟨k - 1, by omega⟩
        have ej : ((j + 1 : Nat) : Int) - 1 = j := by omega
        have hjs : (j : Int) < s := by omega
        rw [ej]
        obtain ⟨b, off, rfl, hcj⟩ := hc j (by omega)
        obtain ⟨b', off', rfl, hcj'⟩ := hc' j (by omega)
        have hs' : (if x j < y j then -1 else if y j < x j then 1 else cmpL x y j) = cmpL x y s := hs
        have hcmp := compare_u64 (x j) (y j)
        by_cases he : x j = y j
        · have HR : Hid (cmpL x y j = cmpL x y s) := by rw [← hs', if_neg (by omega), if_neg (by omega)]; rfl
          have hne : (x j != y j) = false := by simp [he]
          rw [he] at hcj
          clear hs hs' hc hc' hcmp
          go_wp2
          go_quiet (fail)
          go_wp2
          go_roundw
          case rel => exact ⟨j, m + nq, by omega, HR.out, by go_num, rfl⟩
          case measure => simp [intOf]
        · have HR : Hid (sgn (val x s) (val y s) = sgn (x j) (y j)) := by
            show _ = _
            rw [← HV.out, ← hs']
            unfold sgn
            by_cases h1 : x j < y j
            · rw [if_pos h1, if_pos h1]
            · rw [if_neg h1, if_neg h1, if_pos (by omega), if_pos (by omega)]
          have hne : (x j != y j) = true := by simp [he]
          clear hs hs' hc hc'
          go_wp2
          go_quiet (fail)
          go_wp2
          go_quiet ((go_at_call 65; exact (hcmp _).mono fun _ _ h => ⟨h.1, _, h.2.symm⟩))
          go_wp2
          go_ret
          exact ⟨ret_int HR.out.symm, drw2 _ _ _ _⟩
  · have hne : ((s : Int) != s') = true := by simp; omega
    have hcmp := compare_int s s' w
    have HR : Hid (sgn (val x s) (val y s') = sgn s s') := by
      rcases Nat.lt_or_gt_of_ne e with h | h
      · exact HL1.out h
      · exact HL2.out h
    clear HL1 HL2 hN hN'
    go_enter Tryd.func37, Tryd.ntmps37
    go_wp2_with (first | (first | (go_at_call_of 50 (Value.slice a n c); refine hb.mono ?_; rintro e w' ⟨rfl, rfl⟩) | (go_at_call_of 50 (Value.slice a' n' c'); refine hb'.mono ?_; rintro e w' ⟨rfl, rfl⟩)) | (go_at_call 64; refine hcmp.mono ?_; rintro e w' ⟨rfl, rfl⟩))
    go_ret
    exact ⟨ret_int HR.out.symm, 0, rfl⟩
end
end Go.Proofs.YtpemdcnneabbfaaDoor
