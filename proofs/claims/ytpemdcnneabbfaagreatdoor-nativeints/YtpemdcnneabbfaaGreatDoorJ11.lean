/-
  Texts that the proof leans on.
-/
import Derived.Test.YtpemdcnneabbfaaGreatDoorJ6
import Derived.Deep.AppendLies
set_option linter.unusedVariables false
set_option linter.unusedSimpArgs false
set_option linter.unusedSectionVars false
set_option maxRecDepth 20000
namespace Go.Proofs.YtpemdcnneabbfaaGreatDoor
open Go.RowKit
section
/-- the slice (a, n, c) holds the words x; all further words of x are 0 -/
def Num (w : World) (a : Option Addr) (n c : Nat) (x : Nat → Int) : Prop :=
  n ≤ c ∧ c ≤ maxLen ∧ Words x ∧ (∀ i, n ≤ i → x i = 0) ∧ ((a = none ∧ c = 0) ∨ ∃ b off, a = some ⟨b, off, none⟩ ∧ b < w.heap.size ∧ ∀ i, i < n → w.cell? ⟨b, off + i, none⟩ = some (.int .u64 (x i)))
theorem Num.next {w w' : World} {a : Option Addr} {n c : Nat} {x : Nat → Int} (h : Num w a n c x) (hb : Below w.heap.size w w') : Num w' a n c x := by
  obtain ⟨h1, h2, h3, h4, h5⟩ := h
  refine ⟨h1, h2, h3, h4, ?_⟩
  rcases h5 with h5 | ⟨b, off, h6, h7, h8⟩
  · exact Or.inl h5
  · exact Or.inr ⟨b, off, h6, Nat.lt_of_lt_of_le h7 hb.size, fun i hi => (hb.cell (p := ⟨b, off + i, none⟩) h7).trans (h8 i hi)⟩
theorem Num.drewN {w : World} {a : Option Addr} {n c : Nat} {x : Nat → Int} (h : Num w a n c x) (m : Nat) : Num (w.drewN m) a n c x := h

set_option maxHeartbeats 400000 in
theorem word_any (a : Option Addr) (n c i : Nat) (x : Nat → Int) (w : World) (h : Num w a n c x) :
    Calls Tryz.prog 20 #[.slice a n c, .int .i64 i] w fun e w' => e = .returned (.int .u64 (x i)) ∧ w' = w := by
  obtain ⟨h1, h2, h3, h4, h5⟩ := h
  by_cases hi : i < n
  · rcases h5 with ⟨rfl, rfl⟩ | ⟨b, off, rfl, hbs, hc⟩
    · omega
    · have hci := hc i hi
      have hi' : (i : Int) < n := by omega
      clear hc h4 h3
      go_enter Tryz.func20, Tryz.ntmps20
      go_wp2
      go_ret
      exact ⟨rfl, rfl⟩
  · have hz := h4 i (by omega)
    have HZ : Hid (x i = 0) := hz
    clear hz h4 h3 h5
    go_enter Tryz.func20, Tryz.ntmps20
    go_wp2
    go_ret
    exact ⟨ret_int HZ.out.symm, rfl⟩

/-- -1, 0, 1: the words below n, the highest first -/
def cmpL (x y : Nat → Int) : Nat → Int
  | 0 => 0
  | n + 1 => if x n < y n then -1 else if y n < x n then 1 else cmpL x y n

set_option maxHeartbeats 400000 in
theorem cmp_any (a a' : Option Addr) (n c n' c' : Nat) (x y : Nat → Int) (w : World) (hn : n < 4294967296) (hn' : n' < 4294967296) (h : Num w a n c x) (h' : Num w a' n' c' y) :
    Calls Tryz.prog 69 #[.slice a n c, .slice a' n' c'] w fun e w' => e = .returned (.int .i64 (cmpL x y (max n n'))) ∧ w' = w := by
  have hw1 := fun i => word_any a n c i x w h
  have hw2 := fun i => word_any a' n' c' i y w h'
  clear h h'
  go_enter Tryz.func69, Tryz.ntmps69
  go_wp2
  go_loop [5, 6, 7] (fun t u6 u7 => ∃ k : Nat, k ≤ max n n' ∧ cmpL x y k = cmpL x y (max n n') ∧ t = .int .i64 ((k : Int) - 1)) (fun t _ _ => (intOf t + 1).toNat)
  case atStart => exact ⟨max n n', Nat.le_refl _, rfl, by go_num⟩
  case round =>
    obtain ⟨k, hk, hs, rfl⟩ := hrel
    by_cases h0 : k = 0
    · subst h0
      have HS : Hid (cmpL x y (max n n') = 0) := hs.symm
      clear hs
      go_wp2
      go_ret
      exact ⟨ret_int HS.out.symm, rfl⟩
    · obtain ⟨j, rfl⟩ : ∃ j, k = j + 1 := ⟨k - 1, by omega⟩
      have ej : ((j + 1 : Nat) : Int) - 1 = j := by omega
      have hj : j < 4294967296 := by omega
      rw [ej]
      have HS : Hid ((if x j < y j then -1 else if y j < x j then 1 else cmpL x y j) = cmpL x y (max n n')) := hs
      have hkm : j ≤ max n n' := by omega
      clear hs ej hk
      have hwa := hw1 j
      have hwb := hw2 j
      by_cases hlt : x j < y j
      · have HR : Hid (cmpL x y (max n n') = -1) := by rw [← HS.out, if_pos hlt]; rfl
        clear HS
        go_wp2_with (first | (go_at_call_of 20 (Value.slice a n c); refine hwa.mono ?_; rintro e w' ⟨rfl, rfl⟩) | (go_at_call_of 20 (Value.slice a' n' c'); refine hwb.mono ?_; rintro e w' ⟨rfl, rfl⟩))
        go_ret
        exact ⟨ret_int HR.out.symm, rfl⟩
      · by_cases hgt : y j < x j
        · have HR : Hid (cmpL x y (max n n') = 1) := by rw [← HS.out, if_neg hlt, if_pos hgt]; rfl
          clear HS
          go_wp2_with (first | (go_at_call_of 20 (Value.slice a n c); refine hwa.mono ?_; rintro e w' ⟨rfl, rfl⟩) | (go_at_call_of 20 (Value.slice a' n' c'); refine hwb.mono ?_; rintro e w' ⟨rfl, rfl⟩))
          go_ret
          exact ⟨ret_int HR.out.symm, rfl⟩
        · have HR : Hid (cmpL x y j = cmpL x y (max n n')) := by rw [← HS.out, if_neg hlt, if_neg hgt]; rfl
          clear HS
          go_wp2_with (first | (go_at_call_of 20 (Value.slice a n c); refine hwa.mono ?_; rintro e w' ⟨rfl, rfl⟩) | (go_at_call_of 20 (Value.slice a' n' c'); refine hwb.mono ?_; rintro e w' ⟨rfl, rfl⟩))
          go_round
          case rel => exact ⟨j, hkm, HR.out, by go_num⟩
          case measure => simp [intOf]

theorem Tryz.info23 : (Tryz.prog.info? 23).map (fun i => (i.zero, i.size, i.bytes)) = some (some (.int .u64 0), 1, 8) := by kernel_rfl
theorem num_of_owns {w w' : World} {g k cap base : Nat} {x : Nat → Int} (hx : Words x) (hz : ∀ i, k ≤ i → x i = 0) (h : w'.ownsRow base 23 1 (.slice (some ⟨g, 0, none⟩) k cap) k ((List.range k).map fun i => Value.int .u64 (x i))) (hg : g < w'.heap.size) : Num w' (some ⟨g, 0, none⟩) k cap x := by
  obtain ⟨hl, h⟩ := h
  rcases h with ⟨h, _⟩ | ⟨g', cap', cur, he, hb, hh, h1, h2, h3, h4⟩
  · cases h
  · cases he
    refine ⟨h1, h2, hx, hz, Or.inr ⟨g, 0, rfl, hg, fun i hi => ?_⟩⟩
    rw [Nat.zero_add]
    have hcur : cur[i]? = some (.int .u64 (x i)) := by
      have : (cur.toList.take (k * 1))[i]? = some (.int .u64 (x i)) := by rw [h4]; simp [hi]
      rw [List.getElem?_take] at this
      simpa [hi] using this
    unfold World.cell?
    simp [hh, hcur]

set_option maxHeartbeats 1000000 in
theorem trim_some (b off n c : Nat) (x : Nat → Int) (w : World) (hn : n < 4294967296) (h : Num w (some ⟨b, off, none⟩) n c x) :
    Calls Tryz.prog 18 #[.slice (some ⟨b, off, none⟩) n c] w fun e w' => ∃ g cap, e = .returned (.slice (some ⟨g, 0, none⟩) (sizeL x n) cap) ∧ Num w' (some ⟨g, 0, none⟩) (sizeL x n) cap x ∧ Below w.heap.size w w' := by
  obtain ⟨h1, h2, h3, h4, h5⟩ := h
  have hc : b < w.heap.size ∧ ∀ i, i < n → w.cell? ⟨b, off + i, none⟩ = some (.int .u64 (x i)) := by
    rcases h5 with ⟨h, _⟩ | ⟨b', off', h, hbs, hc⟩
    · cases h
    · cases h; exact ⟨hbs, hc⟩
  obtain ⟨hbs, hc⟩ := hc
  clear h5
  obtain ⟨i0, hi, hz0, hz1, hz2⟩ := info_parts Tryz.info23
  unfold maxLen at h2
  go_enter Tryz.func18, Tryz.ntmps18
  go_wp2
  go_loop [3] (fun t => ∃ k : Nat, k ≤ n ∧ sizeL x k = sizeL x n ∧ (∀ i, k ≤ i → x i = 0) ∧ t = .int .i64 k) (fun t => (intOf t).toNat)
  case atStart => exact ⟨n, Nat.le_refl _, rfl, h4, rfl⟩
  case round =>
    obtain ⟨k, hk, hs, hz, rfl⟩ := hrel
    clear h4
    by_cases h0 : k = 0
    · subst h0
      have HS : Hid (sizeL x n = 0) := hs.symm
      have HN : Hid (Num (w.alloc (.cells #[] 23)) (some ⟨w.heap.size, 0, none⟩) 0 0 x) := ⟨Nat.le_refl _, by unfold maxLen; omega, h3, hz, Or.inr ⟨w.heap.size, 0, rfl, by simp, fun i hi => by omega⟩⟩
      clear hs hz hc h3
      go_wp2
      go_ret
      refine ⟨w.heap.size, 0, ?_, ?_, (Below.refl _ _).alloc (Nat.le_refl _) _⟩
      · rw [HS.out]; rfl
      · rw [HS.out]; exact HN.out
    · obtain ⟨j, rfl⟩ : ∃ j, k = j + 1 := ⟨k - 1, by omega⟩
      have hcj := hc j (by omega)
      by_cases hzj : x j = 0
      · have HS : Hid (sizeL x j = sizeL x n) := by
          have : sizeL x (j + 1) = sizeL x j := by simp [sizeL, hzj]
          exact this.symm.trans hs
        have HZ : Hid (∀ i, j ≤ i → x i = 0) := fun i hji => by
          by_cases e : i = j
          · rw [e]; exact hzj
          · exact hz i (by omega)
        clear hs hz hc
        go_wp2
        go_round
        case rel => exact ⟨j, by omega, HS.out, HZ.out, by go_num⟩
        case measure => simp [intOf]
      · have HS : Hid (sizeL x n = j + 1) := by
          have : sizeL x (j + 1) = j + 1 := by simp [sizeL, hzj]
          exact hs.symm.trans this
        have HZ : Hid (∀ i, j + 1 ≤ i → x i = 0) := hz
        have HC : Hid (∀ i, i < n → w.cell? ⟨b, off + i, none⟩ = some (.int .u64 (x i))) := hc
        clear hs hz hc
        have HOWN : (w.alloc (.cells #[] 23)).ownsRow w.heap.size 23 1 (.slice (some ⟨w.heap.size, 0, none⟩) 0 0) 0 [] :=
          ⟨rfl, Or.inr ⟨w.heap.size, 0, #[], rfl, Nat.le_refl _, (MapKept.heap_alloc w _).1, Nat.le_refl _, by unfold maxLen; omega, rfl, rfl⟩⟩
        have HNEWS : ∀ (q : Nat) (u : Value), ((List.range (j + 1)).map fun i => Value.int .u64 (x i))[q]? = some u → (w.alloc (.cells #[] 23)).cell? ((⟨b, off, none⟩ : Addr).add q) = some u := by
          intro q u hq
          have hql : q < j + 1 := by
            rcases Nat.lt_or_ge q (j + 1) with h | h
            · exact h
            · rw [List.getElem?_eq_none (by simpa using h)] at hq; cases hq
          have e2 : u = .int .u64 (x q) := by simpa [hql] using hq.symm
          rw [e2]
          have ea : (⟨b, off, none⟩ : Addr).add q = ⟨b, off + q, none⟩ := by simp [Addr.add]
          rw [ea]
          exact (((Below.refl w.heap.size w).alloc (Nat.le_refl _) _).cell (p := ⟨b, off + q, none⟩) hbs).trans (HC.out q (by omega))
        have HONE : ∀ u ∈ ((List.range (j + 1)).map fun i => Value.int .u64 (x i)), u.oneCell' = true := by
          intro u hu
          obtain ⟨q, _, rfl⟩ := List.mem_map.1 hu
          rfl
        go_wp2_with (at_builtin; refine wpList_append_lies _ rfl (.tmp 18) (.tmp 21) 30 rfl w.heap.size 23 i0 (.int .u64 0) 1 8 Tryz.underlying30 hi hz0 hz1 hz2 rfl (by decide) (.slice (some ⟨w.heap.size, 0, none⟩) 0 0) 0 [] rfl HOWN ⟨b, off, none⟩ (j + 1) c ((List.range (j + 1)).map fun i => Value.int .u64 (x i)) rfl (by simp) HNEWS HONE (by omega) (by unfold maxLen; omega) (by omega) (by simp) (w.heap.size + 1) (by simp) ?_; intro g cap w1 hown hgrow hat hlt; clear HOWN HNEWS HONE)
        have hown' : w1.ownsRow w.heap.size 23 1 (.slice (some ⟨g, 0, none⟩) (j + 1) cap) (j + 1) ((List.range (j + 1)).map fun i => Value.int .u64 (x i)) := by
          have e0 : 0 + (j + 1) = j + 1 := by omega
          rw [e0] at hown
          simpa using hown
        have HN := num_of_owns (w := w) h3 HZ.out hown' hlt
        have HB : Below w.heap.size w w1 := ((Below.refl _ _).alloc (Nat.le_refl _) _).grown hgrow (by simp) (by intro k hk; cases hk; exact Nat.le_refl _)
        clear hown hown' hgrow
        go_wp2
        go_ret
        refine ⟨g, cap, ?_, ?_, HB⟩
        · rw [HS.out]; simp
        · rw [HS.out]; exact HN

set_option maxHeartbeats 400000 in
theorem trim_nil (x : Nat → Int) (w : World) (hx : ∀ i, x i = 0) :
    Calls Tryz.prog 18 #[.slice none 0 0] w fun e w' => ∃ g cap, e = .returned (.slice (some ⟨g, 0, none⟩) 0 cap) ∧ Num w' (some ⟨g, 0, none⟩) 0 cap x ∧ Below w.heap.size w w' := by
  go_enter Tryz.func18, Tryz.ntmps18
  go_wp2
  go_loop [3] (fun t => t = .int .i64 0) (fun t => (intOf t).toNat)
  case atStart => rfl
  case round =>
    subst hrel
    go_wp2
    go_ret
    refine ⟨w.heap.size, 0, rfl, ?_, (Below.refl _ _).alloc (Nat.le_refl _) _⟩
    exact ⟨Nat.le_refl _, by unfold maxLen; omega, fun i => by rw [hx i]; decide, fun i _ => hx i, Or.inr ⟨w.heap.size, 0, rfl, by simp, fun i hi => by omega⟩⟩
theorem trim_any (a : Option Addr) (n c : Nat) (x : Nat → Int) (w : World) (hn : n < 4294967296) (h : Num w a n c x) :
    Calls Tryz.prog 18 #[.slice a n c] w fun e w' => ∃ g cap, e = .returned (.slice (some ⟨g, 0, none⟩) (sizeL x n) cap) ∧ Num w' (some ⟨g, 0, none⟩) (sizeL x n) cap x ∧ Below w.heap.size w w' := by
  have h' := h
  obtain ⟨h1, h2, h3, h4, h5⟩ := h'
  rcases h5 with ⟨rfl, rfl⟩ | ⟨b, off, rfl, _, _⟩
  · obtain rfl : n = 0 := by omega
    exact trim_nil x w (fun i => h4 i (Nat.zero_le _))
  · exact trim_some b off n c x w hn h
end
section
theorem made_zero (k : Nat) : madeCells (Value.int .u64 0).cells k = arrOf (fun _ => 0) k := by
  apply Array.ext
  · simp [madeCells]
  · intro i h1 h2
    rw [arrOf_get]
    simp [madeCells, Value.cells, Nat.mod_one]
theorem make_any (L : Int) (k : Nat) (hL : L = k) (hk : k < 8589934592) (w : World) : (Instr.makeSlice 30 (.int .i64 L) (.int .i64 L)).run Tryz.prog w = .ok (.slice (some ⟨w.heap.size, 0, none⟩) k k) (w.alloc (.cells (arrOf (fun _ => 0) k) 23)) := by
  obtain ⟨i0, hi, hz0, hz1, hz2⟩ := info_parts Tryz.info23
  rw [run_make w 30 23 i0 (.int .u64 0) Tryz.underlying30 hi hz0 .i64 .i64 L L (by omega) (by omega) (by rw [hz2]; omega) (by omega)]
  have e1 : L.toNat = k := by omega
  rw [e1, hz1, Nat.mul_one, made_zero]
theorem num_of_block {w : World} {k : Nat} {x : Nat → Int} {ss : Array Value} (hk : k < 8589934592) (hx : Words x) (hz : ∀ i, k ≤ i → x i = 0) (hsz : ss.size = k) (hss : ∀ j h, ss[j]'h = Value.int .u64 (x j)) : Num (w.alloc (.cells ss 23)) (some ⟨w.heap.size, 0, none⟩) k k x := by
  refine ⟨Nat.le_refl _, by unfold maxLen; omega, hx, hz, Or.inr ⟨w.heap.size, 0, rfl, by simp, fun i hi => ?_⟩⟩
  rw [Nat.zero_add, World.cell?_alloc_new, Array.getElem?_eq_getElem (by omega), hss i (by omega)]
theorem below1 (w : World) (o : Obj) : Below w.heap.size w (w.alloc o) := (Below.refl _ _).alloc (Nat.le_refl _) _

theorem sumW_words (x y : Nat → Int) : Words (sumW x y) := fun i => ⟨Int.emod_nonneg _ (by decide), by have := Int.emod_lt_of_pos (x i + y i + carryW x y i) (b := 18446744073709551616) (by decide); unfold sumW; omega⟩
theorem sumW_zero {x y : Nat → Int} {n : Nat} (hx : Words x) (hy : Words y) (zx : ∀ i, n ≤ i → x i = 0) (zy : ∀ i, n ≤ i → y i = 0) : ∀ i, n + 1 ≤ i → sumW x y i = 0 := by
  have hc : ∀ j, n + 1 ≤ j → carryW x y j = 0 := by
    intro j hj
    obtain ⟨q, rfl⟩ : ∃ q, j = q + 1 := ⟨j - 1, by omega⟩
    have := carryW_01 hx hy q
    simp only [carryW]; rw [zx q (by omega), zy q (by omega)]; omega
  intro i hi
  unfold sumW
  rw [zx i (by omega), zy i (by omega), hc i hi]; rfl
theorem difW_words (x y : Nat → Int) : Words (difW x y) := fun i => ⟨Int.emod_nonneg _ (by decide), by have := Int.emod_lt_of_pos (x i - y i - borW x y i) (b := 18446744073709551616) (by decide); unfold difW; omega⟩
/-- the difference, cut at M words -/
def difZ (x y : Nat → Int) (M i : Nat) : Int := if i < M then difW x y i else 0
theorem difZ_words (x y : Nat → Int) (M : Nat) : Words (difZ x y M) := fun i => by unfold difZ; split; exact difW_words x y i; decide

set_option maxHeartbeats 1000000 in
theorem radd_any (a a' : Option Addr) (n c n' c' : Nat) (x y : Nat → Int) (w : World) (hn : n < 4294967290) (hn' : n' < 4294967290) (h : Num w a n c x) (h' : Num w a' n' c' y) :
    Calls Tryz.prog 73 #[.slice a n c, .slice a' n' c'] w fun e w' => ∃ g k cap, e = .returned (.slice (some ⟨g, 0, none⟩) k cap) ∧ k ≤ max n n' + 1 ∧ Num w' (some ⟨g, 0, none⟩) k cap (sumW x y) ∧ Below w.heap.size w w' := by
  have hx := h.2.2.1
  have hy := h'.2.2.1
  have zx := h.2.2.2.1
  have zy := h'.2.2.2.1
  obtain ⟨M, hM⟩ : ∃ M, max n n' + 1 = M := ⟨_, rfl⟩
  have hMi : max (n : Int) n' + 1 = (M : Int) := by omega
  have hMb : M < 4294967292 := by omega
  have hmk := fun w => make_any (max (n : Int) n' + 1) M hMi (by omega) w
  have hfin : ∀ (ss : Array Value), ss.size = M → (∀ j h, ss[j]'h = Value.int .u64 (sumW x y j)) → Num (w.alloc (.cells ss 23)) (some ⟨w.heap.size, 0, none⟩) M M (sumW x y) := fun ss h1 h2 => num_of_block (by omega) (sumW_words x y) (fun i hi => sumW_zero (n := max n n') hx hy (fun i hi => zx i (by omega)) (fun i hi => zy i (by omega)) i (by omega)) h1 (fun j hj => by rw [h2 j hj])
  have hw1 := fun (i : Nat) (ss : Array Value) => word_any a n c i x (w.alloc (.cells ss 23)) (h.next (below1 w _))
  have hw2 := fun (i : Nat) (ss : Array Value) => word_any a' n' c' i y (w.alloc (.cells ss 23)) (h'.next (below1 w _))
  have HM : Hid (max n n' + 1 = M) := hM
  have HZ : Hid ((arrOf (fun _ => 0) M).size = M ∧ ∀ j h, (arrOf (fun _ => 0) M)[j]'h = Value.int .u64 0) := ⟨arrOf_size _ _, fun j h => arrOf_get _ _ _ _⟩
  clear h h' zx zy hM hMi
  generalize arrOf (fun _ => 0) M = zz at *
  go_enter Tryz.func73, Tryz.ntmps73
  go_wp2
  go_loopw [6, 7, 17, 20] (fun c u7 i u20 wr => ∃ (k : Nat) (ss : Array Value), k ≤ M ∧ i = .int .i64 k ∧ c = .int .u64 (carryW x y k) ∧ ss.size = M ∧ (∀ j h, ss[j]'h = Value.int .u64 (if j < k then sumW x y j else 0)) ∧ wr = w.alloc (.cells ss 23)) (fun _ _ i _ _ => M - (intOf i).toNat)
  case atStart => exact ⟨0, zz, Nat.zero_le _, rfl, rfl, HZ.out.1, fun j h => by rw [HZ.out.2 j h]; simp, rfl⟩
  case round =>
    obtain ⟨k, ss, hk, rfl, rfl, hsz, hss, rfl⟩ := hrel
    have hcar := carryW_01 hx hy k
    by_cases h8 : k < M
    · have h8i : (k : Int) < M := by omega
      have h8s : k < ss.size := by omega
      have bx := hx k
      have b_y := hy k
      have hsk : ss[k]? = some (.int .u64 0) := by rw [Array.getElem?_eq_getElem h8s, hss k h8s, if_neg (by omega)]
      have hadd := fun w => add64 (x k) (y k) (carryW x y k) bx.1 b_y.1 hcar.1 hcar.2 w
      have hwa := hw1 k ss
      have hwb := hw2 k ss
      have HR : Hid (∀ (i : Nat) (h : i < (ss.setIfInBounds k (.int .u64 (sumW x y k))).size), (ss.setIfInBounds k (.int .u64 (sumW x y k)))[i]'h = Value.int .u64 (if i < k + 1 then sumW x y i else 0)) := set_next hss
      clear hss hw1 hw2 hfin hmk hx hy
      go_wp2_with (first | (go_at_call_of 20 (Value.slice a n c); refine hwa.mono ?_; rintro e w' ⟨rfl, rfl⟩) | (go_at_call_of 20 (Value.slice a' n' c'); refine hwb.mono ?_; rintro e w' ⟨rfl, rfl⟩))
      go_roundw
      case rel => exact ⟨k + 1, ss.setIfInBounds k (.int .u64 (sumW x y k)), by omega, by go_num, rfl, by simp [hsz], HR.out, rfl⟩
      case measure => simp [intOf]; omega
    · obtain rfl : k = M := by omega
      have hss' : ∀ j h, ss[j]'h = Value.int .u64 (sumW x y j) := by
        intro j h; rw [hss j h, if_pos (by omega)]
      have hT := trim_any _ _ _ _ _ (by omega) (hfin ss hsz hss')
      have hle := sizeL_le (sumW x y) k
      clear hss hss' hw1 hw2 hfin hmk hx hy
      go_wp2_with (go_at_call 18; refine hT.mono ?_; rintro e w1 ⟨g, cap, rfl, hN, hB⟩)
      go_ret
      exact ⟨g, _, cap, rfl, Nat.le_trans hle (Nat.le_of_eq HM.out.symm), hN, (below1 w _).trans (hB.mono (by simp))⟩
end
end Go.Proofs.YtpemdcnneabbfaaGreatDoor
