/-
  Texts that the proof leans on.
-/
import Derived.Test.YtgknbdehlmlipaaGreatDoorR16
import Derived.Test.YtgknbdehlmlipaaGreatDoorR7
import Derived.Test.YtgknbdehlmlipaaGreatDoorR2
import Derived.Deep.Cut
import Derived.Deep.CutRange
import Derived.Laws.IdiomCopy
import Derived.Laws.CopyRow
import Derived.Deep.WholeRow
import Derived.BigRegion
import Derived.Test.YtgknbdehlmlipaaGreatDoorR13
import Derived.ChangeKeysEq
import Derived.Test.YtgknbdehlmlipaaGreatDoorR8
set_option linter.unusedVariables false
set_option linter.unusedSimpArgs false
set_option linter.unusedSectionVars false
set_option maxRecDepth 20000
namespace Go.Proofs.YtgknbdehlmlipaaGreatDoor
open Go.RowKit
section
/-- the words below q -/
def lowW (x : Nat → Int) (q i : Nat) : Int := if i < q then x i else 0
theorem lowW_words {x : Nat → Int} (hx : Words x) (q : Nat) : Words (lowW x q) := fun i => by unfold lowW; split; exact hx i; decide
set_option maxHeartbeats 1000000 in
def oneW (c : Int) (j : Nat) : Int := if j = 0 then c else 0
theorem num_one (w : World) (c : Int) (hc : 0 ≤ c ∧ c ≤ 18446744073709551615) : Num (w.alloc (.cells #[.int .u64 c] 22)) (some ⟨w.heap.size, 0, none⟩) 1 1 (oneW c) :=
  num_of_block (by omega) (fun i => by unfold oneW; split; exact hc; decide) (fun i hi => by unfold oneW; rw [if_neg (by omega)]) rfl (fun j hj => match j, hj with | 0, _ => rfl)
end
section
attribute [local go_sem] setCell_drewN alloc_drewN

theorem upd_get {ss : Array Value} {z : Nat → Int} {p : Nat} {v : Int} (h : ∀ j h, ss[j]'h = Value.int .u64 (z j)) (j : Nat) (hj : j < (ss.setIfInBounds p (.int .u64 v)).size) : (ss.setIfInBounds p (.int .u64 v))[j]'hj = Value.int .u64 (if j = p then v else z j) := by
  have h' : j < ss.size := by simpa using hj
  rw [Array.getElem_setIfInBounds h']
  by_cases e : p = j
  · subst e; simp
  · rw [if_neg e, h j h', if_neg (Ne.symm e)]
theorem upd_words {z : Nat → Int} {p : Nat} {v : Int} (hz : Words z) (hv : 0 ≤ v ∧ v ≤ 18446744073709551615) : Words (fun j => if j = p then v else z j) := fun i => by
  show 0 ≤ (if i = p then v else z i) ∧ (if i = p then v else z i) ≤ _
  split
  · exact hv
  · exact hz i
/-- the end of a round of the outer loop -/
theorem mul_outer (V Vi a vb c : Int) (i k : Nat) (h : V + c * 18446744073709551616 ^ (i + k) = Vi * vb + a * vb * 18446744073709551616 ^ i) : V + (c - 0) * 18446744073709551616 ^ (i + k) = (Vi + a * 18446744073709551616 ^ i) * vb := by
  rw [Int.sub_zero, h]; generalize (18446744073709551616 : Int) ^ i = p; grind

set_option maxHeartbeats 2000000 in
theorem times_raw (b off n c b' off' n' c' : Nat) (x y : Nat → Int) (w : World) (hn : n < 1000000) (hn' : n' < 1000000) (h : Num w (some ⟨b, off, none⟩) n c x) (h' : Num w (some ⟨b', off', none⟩) n' c' y) :
    Calls Tryz.prog 24 #[.slice (some ⟨b, off, none⟩) n c, .slice (some ⟨b', off', none⟩) n' c'] w fun e w' => ∃ g k cap z, e = .returned (.slice (some ⟨g, 0, none⟩) k cap) ∧ k ≤ n + n' + 1 ∧ Num w' (some ⟨g, 0, none⟩) k cap z ∧ val z (n + n' + 1) = val x n * val y n' ∧ Below w.heap.size w w' := by
  have hx := h.2.2.1
  have hy := h'.2.2.1
  have hc : b < w.heap.size ∧ ∀ i, i < n → w.cell? ⟨b, off + i, none⟩ = some (.int .u64 (x i)) := by
    rcases h.2.2.2.2 with ⟨h, _⟩ | ⟨b', off', h, hbs, hc⟩
    · cases h
    · cases h; exact ⟨hbs, hc⟩
  have hc' : b' < w.heap.size ∧ ∀ i, i < n' → w.cell? ⟨b', off' + i, none⟩ = some (.int .u64 (y i)) := by
    rcases h'.2.2.2.2 with ⟨h, _⟩ | ⟨b', off', h, hbs, hc⟩
    · cases h
    · cases h; exact ⟨hbs, hc⟩
  have hcap := h.1
  have hcap' := h'.1
  obtain ⟨M, hM⟩ : ∃ M, n + n' + 1 = M := ⟨_, rfl⟩
  have hMi : (n : Int) + n' + 1 = (M : Int) := by omega
  have hmk := fun w => make_any ((n : Int) + n' + 1) M hMi (by omega) w
  have hcw : ∀ (ss : Array Value) i, i < n → (w.alloc (.cells ss 22)).cell? ⟨b, off + i, none⟩ = some (.int .u64 (x i)) := fun ss i hi => ((below1 w _).cell (p := ⟨b, off + i, none⟩) hc.1).trans (hc.2 i hi)
  have hcw' : ∀ (ss : Array Value) i, i < n' → (w.alloc (.cells ss 22)).cell? ⟨b', off' + i, none⟩ = some (.int .u64 (y i)) := fun ss i hi => ((below1 w _).cell (p := ⟨b', off' + i, none⟩) hc'.1).trans (hc'.2 i hi)
  have HM : Hid (n + n' + 1 = M) := hM
  have HZ : Hid ((arrOf (fun _ => 0) M).size = M ∧ ∀ j h, (arrOf (fun _ => 0) M)[j]'h = Value.int .u64 0) := ⟨arrOf_size _ _, fun j h => arrOf_get _ _ _ _⟩
  clear h h' hMi hc hc' hM
  generalize arrOf (fun _ => 0) M = zz at *
  go_enter Tryz.func24, Tryz.ntmps24
  go_wp2
  go_loopw [22] (fun i wr => ∃ (k m : Nat) (ss : Array Value) (z : Nat → Int), k ≤ n ∧ i = .int .i64 k ∧ ss.size = M ∧ (∀ j h, ss[j]'h = Value.int .u64 (z j)) ∧ Words z ∧ (∀ j, k + n' ≤ j → z j = 0) ∧ val z M = val x k * val y n' ∧ wr = (w.alloc (.cells ss 22)).drewN m) (fun i _ => n - (intOf i).toNat)
  case atStart =>
    refine ⟨0, 0, zz, fun _ => 0, Nat.zero_le _, rfl, HZ.out.1, HZ.out.2, fun _ => (by decide : (0 : Int) ≤ 0 ∧ (0 : Int) ≤ 18446744073709551615), fun _ _ => rfl, ?_, rfl⟩
    have : ∀ m, val (fun _ => 0) m = 0 := by intro m; induction m with | zero => rfl | succ m ih => simp only [val]; rw [ih]; simp
    rw [this]; simp [val]
  case round =>
    obtain ⟨k, m, ss, z, hk, rfl, hsz, hss, hzw, hz0, hv, rfl⟩ := hrel
    by_cases h8 : k < n
    · have h8i : (k : Int) < n := by omega
      have bx := hx k
      have hcx := fun ss => hcw ss k h8
      have h0p : (∀ j, k + n' ≤ j → z j = 0) := hz0
      go_wp2
      go_loopw [7, 27] (fun cc kk wr => ∃ (q m : Nat) (ss : Array Value) (z : Nat → Int) (C : Int), q ≤ n' ∧ kk = .int .i64 q ∧ cc = .int .u64 C ∧ (0 ≤ C ∧ C ≤ 18446744073709551615) ∧ ss.size = M ∧ (∀ j h, ss[j]'h = Value.int .u64 (z j)) ∧ Words z ∧ (∀ j, k + n' ≤ j → z j = 0) ∧ Hid (val z M + C * 18446744073709551616 ^ (k + q) = val x k * val y n' + x k * val y q * 18446744073709551616 ^ k) ∧ wr = (w.alloc (.cells ss 22)).drewN m) (fun _ kk _ => n' - (intOf kk).toNat)
      case atStart => exact ⟨0, m, ss, z, 0, Nat.zero_le _, rfl, rfl, by decide, hsz, hss, hzw, hz0, by show _ = _; rw [hv]; simp [val], rfl⟩
      case round =>
        clear hss hsz hzw hz0 hv h0p
        obtain ⟨q, m2, s2, z2, C, hq, rfl, rfl, hCb, hsz, hss, hzw, hz0, hv, rfl⟩ := hrel
        by_cases hqn : q < n'
        · have hqi : (q : Int) < n' := by omega
          have b_y := hy q
          have hcy := hcw' s2 q hqn
          have hcx2 := hcx s2
          have hp : k + q < s2.size := by have := HM.out; omega
          have hpi : (k : Int) + q < M := by have := HM.out; omega
          have e1 : ((k : Int) + q).toNat = k + q := by omega
          have hsp : s2[k + q]? = some (.int .u64 (z2 (k + q))) := by rw [Array.getElem?_eq_getElem hp, hss _ hp]
          have hsp' : ∀ h, s2[k + q]'h = .int .u64 (z2 (k + q)) := fun h => hss _ h
          have hzp := hzw (k + q)
          have hms := mul_step (x k) (y q) (z2 (k + q)) C bx b_y hzp hCb
          have hmul := mul64 (x k) (y q) bx b_y
          have hL0 : 0 ≤ x k * y q % 18446744073709551616 := Int.emod_nonneg _ (by decide)
          have hH0 : 0 ≤ x k * y q / 18446744073709551616 := Int.ediv_nonneg (Int.mul_nonneg bx.1 b_y.1) (by decide)
          have hA1 := fun w => add64z (x k * y q % 18446744073709551616) (z2 (k + q)) hL0 hzp.1 w
          have hs0 : 0 ≤ (x k * y q % 18446744073709551616 + z2 (k + q)) % 18446744073709551616 := Int.emod_nonneg _ (by decide)
          have hd0 : 0 ≤ (x k * y q % 18446744073709551616 + z2 (k + q)) / 18446744073709551616 := Int.ediv_nonneg (by omega) (by decide)
          have hA2 := fun w => add64z ((x k * y q % 18446744073709551616 + z2 (k + q)) % 18446744073709551616) C hs0 hCb.1 w
          have ht0 : 0 ≤ ((x k * y q % 18446744073709551616 + z2 (k + q)) % 18446744073709551616 + C) % 18446744073709551616 ∧ ((x k * y q % 18446744073709551616 + z2 (k + q)) % 18446744073709551616 + C) % 18446744073709551616 ≤ 18446744073709551615 := by omega
          have hf0 : 0 ≤ ((x k * y q % 18446744073709551616 + z2 (k + q)) % 18446744073709551616 + C) / 18446744073709551616 := Int.ediv_nonneg (by omega) (by decide)
          generalize ((x k * y q % 18446744073709551616 + z2 (k + q)) % 18446744073709551616 + C) % 18446744073709551616 = t2 at *
          generalize ((x k * y q % 18446744073709551616 + z2 (k + q)) % 18446744073709551616 + C) / 18446744073709551616 = f2 at *
          generalize (x k * y q % 18446744073709551616 + z2 (k + q)) % 18446744073709551616 = t1 at *
          generalize (x k * y q % 18446744073709551616 + z2 (k + q)) / 18446744073709551616 = f1 at *
          generalize x k * y q % 18446744073709551616 = lo at *
          generalize x k * y q / 18446744073709551616 = hi at *
          have HMS : Hid (t2 + (hi + f1 + f2) * 18446744073709551616 = x k * y q + z2 (k + q) + C) := hms.1
          have hb1 : 0 ≤ hi + f1 := hms.2.1
          have hb2 : hi + f1 ≤ 18446744073709551615 := hms.2.2.1
          have hb3 : 0 ≤ hi + f1 + f2 := hms.2.2.2.1
          have hb4 : hi + f1 + f2 ≤ 18446744073709551615 := hms.2.2.2.2
          have HSS : Hid (∀ j h, s2[j]'h = Value.int .u64 (z2 j)) := hss
          have HZW : Hid (Words z2) := hzw
          have HZ0 : Hid (∀ j, k + n' ≤ j → z2 j = 0) := hz0
          have HR : Hid (val (fun j => if j = k + q then t2 else z2 j) M + (hi + f1 + f2) * 18446744073709551616 ^ (k + (q + 1)) = val x k * val y n' + x k * val y (q + 1) * 18446744073709551616 ^ k) := by
            show _ = _
            rw [val_set z2 (k + q) t2 M (by have := HM.out; omega)]
            exact mul_inner _ _ _ _ _ _ _ _ _ k q hv.out hms.1
          clear hms hss hzw hz0 hx hy hcw hcw' hmk hv
          go_wp2
          go_quiet ((go_at_call 59; exact (hmul _).mono fun _ _ h => ⟨h.1, _, h.2⟩))
          go_wp2
          go_roundw
          case rel => exact ⟨q + 1, m2 + nq, s2.setIfInBounds (k + q) (.int .u64 t2), fun j => if j = k + q then t2 else z2 j, hi + f1 + f2, by omega, by go_num, rfl, ⟨hb3, hb4⟩, by simp [hsz], upd_get HSS.out, upd_words HZW.out ht0, fun j hj => (if_neg (show ¬ j = k + q by omega)).trans (HZ0.out j hj), HR, by simp [go_sem]⟩
          case measure => simp [intOf]; omega
        · obtain rfl : q = n' := by omega
          have hp : k + q < s2.size := by have := HM.out; omega
          have hpi : (k : Int) + q < M := by have := HM.out; omega
          have e1 : ((k : Int) + q).toNat = k + q := by omega
          have hsp : s2[k + q]? = some (.int .u64 0) := by rw [Array.getElem?_eq_getElem hp, hss _ hp, hz0 _ (Nat.le_refl _)]
          have HR : Hid (val (fun j => if j = k + q then C else z2 j) M = val x (k + 1) * val y q) := by
            show _ = _
            rw [val_set z2 (k + q) C M (by have := HM.out; omega), hz0 _ (Nat.le_refl _)]
            exact mul_outer _ _ _ _ _ k q hv.out
          have HSS : Hid (∀ j h, s2[j]'h = Value.int .u64 (z2 j)) := hss
          have HZW : Hid (Words z2) := hzw
          have HZ0 : Hid (∀ j, k + q ≤ j → z2 j = 0) := hz0
          clear hss hzw hz0 hx hy hcw hcw' hmk hv hcx
          go_wp2
          go_roundw
          case rel => exact ⟨k + 1, m2, s2.setIfInBounds (k + q) (.int .u64 C), fun j => if j = k + q then C else z2 j, by omega, by go_num, by simp [hsz], upd_get HSS.out, upd_words HZW.out hCb, fun j hj => (if_neg (show ¬ j = k + q by omega)).trans (HZ0.out j (by omega)), HR.out, by simp [go_sem]⟩
          case measure => simp [intOf]; omega
    · obtain rfl : k = n := by omega
      have hT := trim_any _ _ _ _ _ (by have := HM.out; omega) ((num_of_block (w := w) (by have := HM.out; omega) hzw (fun i hi => hz0 i (by have := HM.out; omega)) hsz hss).drewN m)
      have hle := sizeL_le z M
      clear hss hmk hx hy hcw hcw' hzw hz0
      go_wp2_with (go_at_call 56; refine hT.mono ?_; rintro e w1 ⟨g, cap, rfl, hN, hB⟩)
      go_ret
      exact ⟨g, _, cap, z, rfl, Nat.le_trans hle (Nat.le_of_eq HM.out.symm), hN, by rw [HM.out]; exact hv, (below_drewN (below1 w _) m).trans (hB.mono (by simp))⟩
end
/-- the words of x lie in block g -/
def HasN (g n : Nat) (x : Nat → Int) (w : World) : Prop := g < w.heap.size ∧ ∀ i, i < n → w.cell? ⟨g, i, none⟩ = some (.int .u64 (x i))
theorem HasN.next {g n : Nat} {x : Nat → Int} {w w' : World} (h : HasN g n x w) (hb : Below w.heap.size w w') : HasN g n x w' :=
  ⟨Nat.lt_of_lt_of_le h.1 hb.size, fun i hi => (hb.cell (p := ⟨g, i, none⟩) h.1).trans (h.2 i hi)⟩
theorem HasN.of_alloc (w : World) (cs : Array Value) (t : TypeId) (n : Nat) (x : Nat → Int) (h : ∀ i, i < n → cs[i]? = some (.int .u64 (x i))) : HasN w.heap.size n x (w.alloc (.cells cs t)) :=
  ⟨by simp, fun i hi => by rw [World.cell?_alloc_new]; exact h i hi⟩
theorem HasN.num {g n c m : Nat} {x : Nat → Int} {w : World} (h : HasN g m x w) (hx : Words x) (hn : n ≤ m) (hc : n ≤ c) (hcm : c ≤ maxLen) : Num w (some ⟨g, 0, none⟩) n c (lowW x n) :=
  ⟨hc, hcm, lowW_words hx n, fun i hi => by unfold lowW; rw [if_neg (by omega)], Or.inr ⟨g, 0, rfl, h.1, fun i hi => by rw [Nat.zero_add, h.2 i (by omega)]; unfold lowW; rw [if_pos hi]⟩⟩

/-- all the blocks of the list stand; nothing elder than the call has turned -/
def KP (w0 : World) (l : List (Nat × Nat × (Nat → Int))) (w : World) : Prop := Below w0.heap.size w0 w ∧ ∀ e ∈ l, HasN e.1 e.2.1 e.2.2 w
theorem KP.next {w0 : World} {l : List (Nat × Nat × (Nat → Int))} {w w' : World} (h : KP w0 l w) (hb : Below w.heap.size w w') : KP w0 l w' := ⟨h.1.trans (hb.mono h.1.size), fun e he => (h.2 e he).next hb⟩
theorem KP.drew {w0 : World} {l : List (Nat × Nat × (Nat → Int))} {w : World} (h : KP w0 l w) : KP w0 l w.drew := ⟨h.1.drew, h.2⟩
theorem KP.alloc {w0 : World} {l : List (Nat × Nat × (Nat → Int))} {w : World} (h : KP w0 l w) (o : Obj) : KP w0 l (w.alloc o) := h.next (below1 w o)
theorem KP.setg {w0 : World} {l : List (Nat × Nat × (Nat → Int))} {w wg : World} (h : KP w0 l w) (hg : KP w0 l wg) (i : Nat) (v : Value) : KP w0 l (w.setCell ⟨wg.heap.size, i, none⟩ v) := by
  refine ⟨h.1.setCell hg.1.size v, fun e he => ?_⟩
  have h1 := h.2 e he
  have h2 := (hg.2 e he).1
  have hb : Below (e.1 + 1) w (w.setCell ⟨wg.heap.size, i, none⟩ v) := (Below.refl _ _).setCell (by show e.1 + 1 ≤ wg.heap.size; omega) v
  exact ⟨Nat.lt_of_lt_of_le h1.1 hb.size, fun j hj => (hb.cell (p := ⟨e.1, j, none⟩) (by show e.1 < e.1 + 1; omega)).trans (h1.2 j hj)⟩
theorem KP.cons {w0 : World} {l : List (Nat × Nat × (Nat → Int))} {w : World} (h : KP w0 l w) {g n : Nat} {x : Nat → Int} (hg : HasN g n x w) : KP w0 ((g, n, x) :: l) w := ⟨h.1, fun e he => by
  rcases List.mem_cons.1 he with rfl | he
  · exact hg
  · exact h.2 e he⟩
theorem KP.at {w0 : World} {l : List (Nat × Nat × (Nat → Int))} {w : World} (h : KP w0 l w) {g n : Nat} {x : Nat → Int} (hm : (g, n, x) ∈ l) : HasN g n x w := h.2 _ hm
theorem lt_alloc' {W w3 : World} {o : Obj} {n : Nat} (hb : Below n (W.alloc o) w3) : W.heap.size < w3.heap.size := by
  have h := hb.size
  have h2 : (W.alloc o).heap.size = W.heap.size + 1 := World.size_alloc W o
  omega
theorem KP.new {w0 : World} {l : List (Nat × Nat × (Nat → Int))} {w : World} (h : KP w0 l w) (cs : Array Value) (t : TypeId) (n : Nat) (x : Nat → Int) (hc : ∀ i, i < n → cs[i]? = some (.int .u64 (x i))) : KP w0 ((w.heap.size, n, x) :: l) (w.alloc (.cells cs t)) :=
  (h.alloc _).cons (HasN.of_alloc w cs t n x hc)
/-- n cells of a block that was made some time ago, written one by one -/
def putN (w : World) (g : Nat) (x : Nat → Int) : Nat → World
  | 0 => w
  | n + 1 => (putN w g x n).setCell ⟨g, n, none⟩ (.int .u64 (x n))
theorem putN_kp {w0 : World} {l : List (Nat × Nat × (Nat → Int))} {w wg : World} (h : KP w0 l w) (hg : KP w0 l wg) (x : Nat → Int) : ∀ n, KP w0 l (putN w wg.heap.size x n)
  | 0 => h
  | n + 1 => (putN_kp h hg x n).setg hg n _
theorem putN_size (w : World) (g : Nat) (x : Nat → Int) : ∀ n, w.heap.size ≤ (putN w g x n).heap.size
  | 0 => Nat.le_refl _
  | n + 1 => Nat.le_trans (putN_size w g x n) ((Below.refl 0 _).setCell (Nat.zero_le _) _ : Below 0 _ _).size
theorem putN_cell (w : World) (g N : Nat) (x : Nat → Int) (hc : ∀ i, i < N → (w.cell? ⟨g, i, none⟩).isSome = true) : ∀ n, n ≤ N → ∀ i, i < N → (putN w g x n).cell? ⟨g, i, none⟩ = if i < n then some (.int .u64 (x i)) else w.cell? ⟨g, i, none⟩
  | 0, _, i, _ => by rw [if_neg (by omega)]; rfl
  | n + 1, hn, i, hi => by
    have ih := putN_cell w g N x hc n (by omega)
    show ((putN w g x n).setCell ⟨g, n, none⟩ (.int .u64 (x n))).cell? ⟨g, i, none⟩ = _
    by_cases e : i = n
    · subst e
      rw [if_pos (by omega)]
      have := ih i hi
      rw [if_neg (by omega)] at this
      exact World.cell?_setCell_same' _ _ _ (by rw [this]; exact hc i hi)
    · have hne : (⟨g, n, none⟩ : Addr) ≠ ⟨g, i, none⟩ := by intro h; injection h with h1 h2; exact e h2.symm
      refine Eq.trans (World.cell?_setCell_other (h := hne) ..) ?_
      rw [ih i hi]
      by_cases e2 : i < n
      · rw [if_pos e2, if_pos (by omega)]
      · rw [if_neg e2, if_neg (by omega)]
theorem KP.put {w0 : World} {l : List (Nat × Nat × (Nat → Int))} {w wg : World} (h : KP w0 l w) (hg : KP w0 l wg) (hlt : wg.heap.size < w.heap.size) (x : Nat → Int) (n : Nat) (hc : ∀ i, i < n → (w.cell? ⟨wg.heap.size, i, none⟩).isSome = true) : KP w0 ((wg.heap.size, n, x) :: l) (putN w wg.heap.size x n) :=
  (putN_kp h hg x n).cons ⟨Nat.lt_of_lt_of_le hlt (putN_size w _ x n), fun i hi => by rw [putN_cell w wg.heap.size n x hc n (Nat.le_refl _) i hi, if_pos hi]⟩
section
set_option maxHeartbeats 400000 in
theorem bare_any (a : Option Addr) (n c : Nat) (x : Nat → Int) (w : World) (hn : n < 4294967296) (h : Num w a n c x) :
    Calls Tryz.prog 103 #[.slice a n c] w fun e w' => e = .returned (.slice a (sizeL x n) c) ∧ w = w' := by
  obtain ⟨h1, h2, h3, h4, h5⟩ := h
  rcases h5 with ⟨rfl, rfl⟩ | ⟨b, off, rfl, hbs, hc⟩
  · obtain rfl : n = 0 := by omega
    go_enter Tryz.func103, Tryz.ntmps103
    go_wp2
    go_loop [3] (fun t => t = .int .i64 0) (fun t => (intOf t).toNat)
    case atStart => rfl
    case round =>
      subst hrel
      go_wp2
      go_ret
      exact ⟨rfl, rfl⟩
  · unfold maxLen at h2
    clear h3 h4
    go_enter Tryz.func103, Tryz.ntmps103
    go_wp2
    go_loop [3] (fun t => ∃ k : Nat, k ≤ n ∧ sizeL x k = sizeL x n ∧ t = .int .i64 k) (fun t => (intOf t).toNat)
    case atStart => exact ⟨n, Nat.le_refl _, rfl, rfl⟩
    case round =>
      obtain ⟨k, hk, hs, rfl⟩ := hrel
      by_cases h0 : k = 0
      · subst h0
        have HS : Hid (sizeL x n = 0) := hs.symm
        clear hs hc
        go_wp2
        go_ret
        exact ⟨by rw [HS.out]; rfl, rfl⟩
      · obtain ⟨j, rfl⟩ : ∃ j, k = j + 1 := ⟨k - 1, by omega⟩
        have hcj := hc j (by omega)
        by_cases hzj : x j = 0
        · have HS : Hid (sizeL x j = sizeL x n) := by
            have : sizeL x (j + 1) = sizeL x j := by simp [sizeL, hzj]
            exact this.symm.trans hs
          clear hs hc
          go_wp2
          go_round
          case rel => exact ⟨j, by omega, HS.out, by go_num⟩
          case measure => simp [intOf]
        · have HS : Hid (sizeL x n = j + 1) := by
            have : sizeL x (j + 1) = j + 1 := by simp [sizeL, hzj]
            exact hs.symm.trans this
          clear hs hc
          go_wp2
          go_ret
          exact ⟨by rw [HS.out]; rfl, rfl⟩

theorem sizeL_zero {x : Nat → Int} : ∀ n, (∀ i, n ≤ i → x i = 0) → ∀ i, sizeL x n ≤ i → x i = 0
  | 0, h, i, _ => h i (Nat.zero_le _)
  | n + 1, h, i, hi => by
    by_cases hz : x n = 0
    · rw [show sizeL x (n + 1) = sizeL x n by simp [sizeL, hz]] at hi
      exact sizeL_zero n (fun j hj => if e : j = n then e ▸ hz else h j (by omega)) i hi
    · rw [show sizeL x (n + 1) = n + 1 by simp [sizeL, hz]] at hi
      exact h i hi
theorem sizeL_top {x : Nat → Int} : ∀ n, 0 < sizeL x n → x (sizeL x n - 1) ≠ 0
  | 0, h => by simp [sizeL] at h
  | n + 1, h => by
    by_cases hz : x n = 0
    · rw [show sizeL x (n + 1) = sizeL x n by simp [sizeL, hz]] at h ⊢
      exact sizeL_top n h
    · rw [show sizeL x (n + 1) = n + 1 by simp [sizeL, hz]]
      exact hz
theorem sizeL_sizeL (x : Nat → Int) : ∀ n, sizeL x (sizeL x n) = sizeL x n
  | 0 => rfl
  | n + 1 => by
    by_cases hz : x n = 0
    · rw [show sizeL x (n + 1) = sizeL x n by simp [sizeL, hz]]; exact sizeL_sizeL x n
    · have : sizeL x (n + 1) = n + 1 := by simp [sizeL, hz]
      rw [this]; exact this
theorem Num.bare {w : World} {a : Option Addr} {n c : Nat} {x : Nat → Int} (h : Num w a n c x) : Num w a (sizeL x n) c x := by
  obtain ⟨h1, h2, h3, h4, h5⟩ := h
  have hle := sizeL_le x n
  refine ⟨by omega, h2, h3, sizeL_zero n h4, ?_⟩
  rcases h5 with ⟨h, h'⟩ | ⟨b, off, h, hb, hc⟩
  · exact Or.inl ⟨h, h'⟩
  · exact Or.inr ⟨b, off, h, hb, fun i hi => hc i (by omega)⟩
end
section
attribute [local go_sem ↓] Go.wp_at_zero Go.wp_at_succ
attribute [local go_sem] setCell_drewN alloc_drewN

theorem limAdd4 (x y : Nat → Int) (w : World) (hx : Words x) (hy : Words y) :
    Calls Tryz.prog 86 #[.agg (arrOf x 4), .agg (arrOf y 4)] w fun e w' => e = .returned (.tuple #[.agg (arrOf (sumW x y) 4), .int .u64 (carryW x y 4)]) ∧ Below w.heap.size w w' := by
  have sx : (arrOf x 4).size = 4 := arrOf_size x 4
  have sy : (arrOf y 4).size = 4 := arrOf_size y 4
  have gx := fun i h => arrOf_get x 4 i h
  have gy := fun i h => arrOf_get y 4 i h
  generalize arrOf x 4 = ax at *
  generalize arrOf y 4 = ay at *
  go_enter Tryz.func86, Tryz.ntmps86
  go_wp2
  go_loopw [7, 8, 11, 14] (fun c u8 i u14 wr => ∃ (k m : Nat) (ss : Array Value), k ≤ 4 ∧ i = .int .i64 k ∧ c = .int .u64 (carryW x y k) ∧ ss.size = 4 ∧ (∀ j h, ss[j]'h = Value.int .u64 (if j < k then sumW x y j else 0)) ∧ wr = (((((w.alloc (.cells ax 23)).alloc (.cells ay 23)).alloc (.cells #[.int .u64 0, .int .u64 0, .int .u64 0, .int .u64 0] 23)).alloc (.cells ss 23)).drewN m)) (fun _ _ i _ _ => 4 - (intOf i).toNat)
  case atStart => exact ⟨0, 0, _, Nat.zero_le _, rfl, rfl, rfl, by intro j h; have h' : j < 4 := h; match j, h' with | 0, _ => rfl | 1, _ => rfl | 2, _ => rfl | 3, _ => rfl, rfl⟩
  case round =>
    obtain ⟨k, m, ss, hk, rfl, rfl, hsz, hss, rfl⟩ := hrel
    have hcar := carryW_01 hx hy k
    by_cases h8 : k < 4
    · have h8i : (k : Int) < 4 := by omega
      have h8s : k < ss.size := by omega
      have bx := hx k
      have b_y := hy k
      have hcx : (ax[k]'(by omega)) = .int .u64 (x k) := gx k _
      have hcy : (ay[k]'(by omega)) = .int .u64 (y k) := gy k _
      have hadd := fun w => add64 (x k) (y k) (carryW x y k) bx.1 b_y.1 hcar.1 hcar.2 w
      go_wp2
      go_region_held3 (fun w' => w'.cell? ⟨w.heap.size, k, none⟩ = some (.int .u64 (x k)) ∧ w'.cell? ⟨w.heap.size + 1, k, none⟩ = some (.int .u64 (y k))) ((simp [go_sem, hcx, hcy, sx, sy, h8])) (fail)
      go_wp2
      go_roundw
      case rel => exact ⟨k + 1, m + 1, ss.setIfInBounds k (.int .u64 (sumW x y k)), by omega, by go_num, rfl, by simp [hsz], set_next hss, rfl⟩
      case measure => simp [intOf]; omega
    · obtain rfl : k = 4 := by omega
      have hss' : ∀ j h, ss[j]'h = Value.int .u64 (sumW x y j) := by
        intro j h; rw [hss j h, if_pos (by omega)]
      clear hss
      go_wp2
      exact bodyPost_ret (v := .tuple #[.agg (arrOf (sumW x y) 4), .int .u64 (carryW x y 4)]) (by simp [results, Tryz.results86, go_sem]; rfl) rfl ⟨rfl, below_alloc4 _ _ _ _ _ _⟩

theorem limSub4 (x y : Nat → Int) (w : World) (hx : Words x) (hy : Words y) :
    Calls Tryz.prog 85 #[.agg (arrOf x 4), .agg (arrOf y 4)] w fun e w' => e = .returned (.tuple #[.agg (arrOf (difW x y) 4), .int .u64 (borW x y 4)]) ∧ Below w.heap.size w w' := by
  have sx : (arrOf x 4).size = 4 := arrOf_size x 4
  have sy : (arrOf y 4).size = 4 := arrOf_size y 4
  have gx := fun i h => arrOf_get x 4 i h
  have gy := fun i h => arrOf_get y 4 i h
  generalize arrOf x 4 = ax at *
  generalize arrOf y 4 = ay at *
  go_enter Tryz.func85, Tryz.ntmps85
  go_wp2
  go_loopw [7, 8, 11, 14] (fun c u8 i u14 wr => ∃ (k m : Nat) (ss : Array Value), k ≤ 4 ∧ i = .int .i64 k ∧ c = .int .u64 (borW x y k) ∧ ss.size = 4 ∧ (∀ j h, ss[j]'h = Value.int .u64 (if j < k then difW x y j else 0)) ∧ wr = (((((w.alloc (.cells ax 23)).alloc (.cells ay 23)).alloc (.cells #[.int .u64 0, .int .u64 0, .int .u64 0, .int .u64 0] 23)).alloc (.cells ss 23)).drewN m)) (fun _ _ i _ _ => 4 - (intOf i).toNat)
  case atStart => exact ⟨0, 0, _, Nat.zero_le _, rfl, rfl, rfl, by intro j h; have h' : j < 4 := h; match j, h' with | 0, _ => rfl | 1, _ => rfl | 2, _ => rfl | 3, _ => rfl, rfl⟩
  case round =>
    obtain ⟨k, m, ss, hk, rfl, rfl, hsz, hss, rfl⟩ := hrel
    have hcar := borW_01 x y k
    by_cases h8 : k < 4
    · have h8i : (k : Int) < 4 := by omega
      have h8s : k < ss.size := by omega
      have bx := hx k
      have b_y := hy k
      have hcx : (ax[k]'(by omega)) = .int .u64 (x k) := gx k _
      have hcy : (ay[k]'(by omega)) = .int .u64 (y k) := gy k _
      have hadd := fun w => sub64 (x k) (y k) (borW x y k) bx.1 b_y.1 (by omega) hcar.1 hcar.2 w
      go_wp2
      go_region_held3 (fun w' => w'.cell? ⟨w.heap.size, k, none⟩ = some (.int .u64 (x k)) ∧ w'.cell? ⟨w.heap.size + 1, k, none⟩ = some (.int .u64 (y k))) ((simp [go_sem, hcx, hcy, sx, sy, h8])) (fail)
      go_wp2
      go_roundw
      case rel => exact ⟨k + 1, m + 1, ss.setIfInBounds k (.int .u64 (difW x y k)), by omega, by go_num, rfl, by simp [hsz], set_next hss, rfl⟩
      case measure => simp [intOf]; omega
    · obtain rfl : k = 4 := by omega
      have hss' : ∀ j h, ss[j]'h = Value.int .u64 (difW x y j) := by
        intro j h; rw [hss j h, if_pos (by omega)]
      clear hss
      go_wp2
      exact bodyPost_ret (v := .tuple #[.agg (arrOf (difW x y) 4), .int .u64 (borW x y 4)]) (by simp [results, Tryz.results85, go_sem]; rfl) rfl ⟨rfl, below_alloc4 _ _ _ _ _ _⟩

def shlL (x : Nat → Int) (q r j : Nat) : Int := if q ≤ j then (if q < j then bits BinOp.or IntKind.u64 (IntKind.u64.wrap (x (j - q) * 2 ^ r)) (x (j - q - 1) / 2 ^ (64 - r)) else IntKind.u64.wrap (x (j - q) * 2 ^ r)) else 0
def shrL (x : Nat → Int) (q r n j : Nat) : Int := if q + j < n then (if q + j + 1 < n then bits BinOp.or IntKind.u64 (x (q + j) / 2 ^ r) (IntKind.u64.wrap (x (q + j + 1) * 2 ^ (64 - r))) else x (q + j) / 2 ^ r) else 0

theorem limShl4 (x : Nat → Int) (n : Int) (q r : Nat) (w : World) (hx : Words x) (hn : 1 ≤ n) (hn2 : n ≤ 9223372036854775807) (hq : n / 64 = q) (hr : n % 64 = r) (hr6 : r < 64) :
    Calls Tryz.prog 150 #[.agg (arrOf x 4), .int .i64 n] w fun e w' => e = .returned (.agg (arrOf (shlL x q r) 4)) ∧ Below w.heap.size w w' := by
  have sx : (arrOf x 4).size = 4 := arrOf_size x 4
  have gx := fun i h => arrOf_get x 4 i h
  generalize arrOf x 4 = ax at *
  have hn1 : ¬ n < 1 := by omega
  go_enter Tryz.func150, Tryz.ntmps150
  go_wp2
  go_loopw [8] (fun i wr => ∃ (j m : Nat) (ss : Array Value), q ≤ j ∧ i = .int .i64 j ∧ (j ≤ 4 ∨ j = q) ∧ ss.size = 4 ∧ (∀ k h, ss[k]'h = Value.int .u64 (if k < j then shlL x q r k else 0)) ∧ wr = ((((w.alloc (.cells ax 23)).alloc (.cells #[.int .u64 0, .int .u64 0, .int .u64 0, .int .u64 0] 23)).alloc (.cells ss 23)).drewN m)) (fun i _ => 4 - (intOf i).toNat)
  case atStart => exact ⟨q, 0, _, Nat.le_refl _, rfl, Or.inr rfl, rfl, by intro k h; have h' : k < 4 := h; by_cases e : k < q; (rw [if_pos e]; unfold shlL; rw [if_neg (by omega)]; match k, h' with | 0, _ => rfl | 1, _ => rfl | 2, _ => rfl | 3, _ => rfl); (rw [if_neg e]; match k, h' with | 0, _ => rfl | 1, _ => rfl | 2, _ => rfl | 3, _ => rfl), rfl⟩
  case round =>
    obtain ⟨j, m, ss, hqj, rfl, hj, hsz, hss, rfl⟩ := hrel
    by_cases h8 : j < 4
    · have h8i : (j : Int) < 4 := by omega
      have h8s : j < ss.size := by omega
      have hqi : (q : Int) ≤ j := by omega
      have e1 : ((j : Int) - q).toNat = j - q := by omega
      have hlt : (j : Int) - q < 4 := by omega
      have hge : 0 ≤ (j : Int) - q := by omega
      have bx := hx (j - q)
      have hcx : ax[j - q]? = some (.int .u64 (x (j - q))) := by rw [Array.getElem?_eq_getElem (by omega), gx _ (by omega)]
      have hsk : ss[j]? = some (.int .u64 0) := by rw [Array.getElem?_eq_getElem h8s, hss j h8s, if_neg (by omega)]
      have HR : Hid (∀ (i : Nat) (h : i < (ss.setIfInBounds j (.int .u64 (shlL x q r j))).size), (ss.setIfInBounds j (.int .u64 (shlL x q r j)))[i]'h = Value.int .u64 (if i < j + 1 then shlL x q r i else 0)) := set_next hss
      by_cases hqq : q < j
      · have hqq' : (q : Int) < j := by omega
        have e2 : ((j : Int) - q - 1).toNat = j - q - 1 := by omega
        have hlt2 : (j : Int) - q - 1 < 4 := by omega
        have hge2 : 0 ≤ (j : Int) - q - 1 := by omega
        have bx2 := hx (j - q - 1)
        have hcx2 : ax[j - q - 1]? = some (.int .u64 (x (j - q - 1))) := by rw [Array.getElem?_eq_getElem (by omega), gx _ (by omega)]
        have HV : Hid (shlL x q r j = bits BinOp.or IntKind.u64 (IntKind.u64.wrap (x (j - q) * 2 ^ r)) (x (j - q - 1) / 2 ^ (64 - r))) := by show _ = _; unfold shlL; rw [if_pos hqj, if_pos hqq]
        clear hss gx hx
        go_wp2
        go_region
        go_wp2
        go_roundw
        case rel => refine ⟨j + 1, m + 1, ss.setIfInBounds j (.int .u64 (shlL x q r j)), by omega, by go_num, Or.inl (by omega), by simp [hsz], HR.out, ?_⟩; rw [HV.out]
        case measure => simp [intOf]; omega
      · have hqq' : ¬ (q : Int) < j := by omega
        have HV : Hid (shlL x q r j = IntKind.u64.wrap (x (j - q) * 2 ^ r)) := by show _ = _; unfold shlL; rw [if_pos hqj, if_neg hqq]
        clear hss gx hx
        go_wp2
        go_roundw
        case rel => refine ⟨j + 1, m, ss.setIfInBounds j (.int .u64 (shlL x q r j)), by omega, by go_num, Or.inl (by omega), by simp [hsz], HR.out, ?_⟩; rw [HV.out]
        case measure => simp [intOf]; omega
    · have h8i : ¬ (j : Int) < 4 := by omega
      have hss' : ∀ k h, ss[k]'h = Value.int .u64 (shlL x q r k) := by
        intro k h; rw [hss k h, if_pos (by omega)]
      clear hss gx
      go_wp2
      exact bodyPost_ret (v := .agg (arrOf (shlL x q r) 4)) (by simp [results, Tryz.results150, go_sem]; rfl) rfl ⟨rfl, below_alloc3 _ _ _ _ _⟩
theorem limShl4_0 (x : Nat → Int) (n : Int) (w : World) (hn : n < 1) :
    Calls Tryz.prog 150 #[.agg (arrOf x 4), .int .i64 n] w fun e w' => e = .returned (.agg (arrOf x 4)) ∧ Below w.heap.size w w' := by
  have sx : (arrOf x 4).size = 4 := arrOf_size x 4
  have gx := fun i h => arrOf_get x 4 i h
  have hl : arrOf x 4 = #[.int .u64 (x 0), .int .u64 (x 1), .int .u64 (x 2), .int .u64 (x 3)] := rfl
  rw [hl]
  rw [hl] at sx gx
  clear gx sx
  go_enter Tryz.func150, Tryz.ntmps150
  go_wp2
  exact bodyPost_ret (v := .agg #[.int .u64 (x 0), .int .u64 (x 1), .int .u64 (x 2), .int .u64 (x 3)]) (by simp [results, Tryz.results150, go_sem]) rfl ⟨rfl, ((Below.refl _ _).alloc (Nat.le_refl _) _).alloc (by simp) _⟩

theorem limShr4 (x : Nat → Int) (n : Int) (q r : Nat) (w : World) (hx : Words x) (hn : 1 ≤ n) (hn2 : n ≤ 9223372036854775807) (hq : n / 64 = q) (hr : n % 64 = r) (hr6 : r < 64) :
    Calls Tryz.prog 149 #[.agg (arrOf x 4), .int .i64 n] w fun e w' => e = .returned (.agg (arrOf (shrL x q r 4) 4)) ∧ Below w.heap.size w w' := by
  have sx : (arrOf x 4).size = 4 := arrOf_size x 4
  have gx := fun i h => arrOf_get x 4 i h
  generalize arrOf x 4 = ax at *
  have hn1 : ¬ n < 1 := by omega
  go_enter Tryz.func149, Tryz.ntmps149
  go_wp2
  go_loopw [8] (fun i wr => ∃ (j m : Nat) (ss : Array Value), q ≤ j ∧ i = .int .i64 j ∧ (j ≤ 4 ∨ j = q) ∧ ss.size = 4 ∧ (∀ k h, ss[k]'h = Value.int .u64 (if k < j - q then shrL x q r 4 k else 0)) ∧ wr = ((((w.alloc (.cells ax 23)).alloc (.cells #[.int .u64 0, .int .u64 0, .int .u64 0, .int .u64 0] 23)).alloc (.cells ss 23)).drewN m)) (fun i _ => 4 - (intOf i).toNat)
  case atStart => exact ⟨q, 0, _, Nat.le_refl _, rfl, Or.inr rfl, rfl, by intro k h; have h' : k < 4 := h; rw [if_neg (by omega)]; match k, h' with | 0, _ => rfl | 1, _ => rfl | 2, _ => rfl | 3, _ => rfl, rfl⟩
  case round =>
    obtain ⟨j, m, ss, hqj, rfl, hj, hsz, hss, rfl⟩ := hrel
    by_cases h8 : j < 4
    · have h8i : (j : Int) < 4 := by omega
      have h8s : j - q < ss.size := by omega
      have hqi : (q : Int) ≤ j := by omega
      have e1 : ((j : Int) - q).toNat = j - q := by omega
      have hlt : (j : Int) - q < 4 := by omega
      have hge : 0 ≤ (j : Int) - q := by omega
      have bx := hx j
      have hcx : ax[j]? = some (.int .u64 (x j)) := by rw [Array.getElem?_eq_getElem (by omega), gx _ (by omega)]
      have hcx' : ∀ h, ax[j]'h = .int .u64 (x j) := fun h => gx j h
      have hsk : ss[j - q]? = some (.int .u64 0) := by rw [Array.getElem?_eq_getElem h8s, hss _ h8s, if_neg (by omega)]
      have HR0 : ∀ (i : Nat) (h : i < (ss.setIfInBounds (j - q) (.int .u64 (shrL x q r 4 (j - q)))).size), (ss.setIfInBounds (j - q) (.int .u64 (shrL x q r 4 (j - q))))[i]'h = Value.int .u64 (if i < (j - q) + 1 then shrL x q r 4 i else 0) := set_next hss
      have HR : Hid (∀ (i : Nat) (h : i < (ss.setIfInBounds (j - q) (.int .u64 (shrL x q r 4 (j - q)))).size), (ss.setIfInBounds (j - q) (.int .u64 (shrL x q r 4 (j - q))))[i]'h = Value.int .u64 (if i < j + 1 - q then shrL x q r 4 i else 0)) := by
        intro i h; rw [HR0 i h, show j - q + 1 = j + 1 - q by omega]
      clear HR0
      have ejq : q + (j - q) = j := by omega
      have hget : ∀ v : Value, (ss.setIfInBounds (j - q) v)[j - q]? = some v := fun v => by rw [Array.getElem?_setIfInBounds_self_of_lt h8s]
      by_cases hqq : j + 1 < 4
      · have hqq' : (j : Int) + 1 < 4 := by omega
        have bx2 := hx (j + 1)
        have e2 : ((j : Int) + 1).toNat = j + 1 := by omega
        have hcx2 : ax[j + 1]? = some (.int .u64 (x (j + 1))) := by rw [Array.getElem?_eq_getElem (by omega), gx _ (by omega)]
        have hcx2' : ∀ h, ax[j + 1]'h = .int .u64 (x (j + 1)) := fun h => gx (j + 1) h
        have HV : Hid (shrL x q r 4 (j - q) = bits BinOp.or IntKind.u64 (x j / 2 ^ r) (IntKind.u64.wrap (x (j + 1) * 2 ^ (64 - r)))) := by show _ = _; unfold shrL; rw [ejq, if_pos h8, if_pos hqq]
        clear hss gx hx ejq
        go_wp2
        go_region
        go_wp2
        go_roundw
        case rel => refine ⟨j + 1, m + 1, ss.setIfInBounds (j - q) (.int .u64 (shrL x q r 4 (j - q))), by omega, by go_num, Or.inl (by omega), by simp [hsz], HR.out, ?_⟩; rw [HV.out]
        case measure => simp [intOf]; omega
      · have hqq' : ¬ (j : Int) + 1 < 4 := by omega
        have HV : Hid (shrL x q r 4 (j - q) = x j / 2 ^ r) := by show _ = _; unfold shrL; rw [ejq, if_pos h8, if_neg hqq]
        clear hss gx hx ejq
        go_wp2
        go_roundw
        case rel => refine ⟨j + 1, m, ss.setIfInBounds (j - q) (.int .u64 (shrL x q r 4 (j - q))), by omega, by go_num, Or.inl (by omega), by simp [hsz], HR.out, ?_⟩; rw [HV.out]
        case measure => simp [intOf]; omega
    · have h8i : ¬ (j : Int) < 4 := by omega
      have hss' : ∀ k h, ss[k]'h = Value.int .u64 (shrL x q r 4 k) := by
        intro k h; rw [hss k h]
        split
        · rfl
        · unfold shrL; rw [if_neg (by omega)]
      clear hss gx
      go_wp2
      exact bodyPost_ret (v := .agg (arrOf (shrL x q r 4) 4)) (by simp [results, Tryz.results149, go_sem]; rfl) rfl ⟨rfl, below_alloc3 _ _ _ _ _⟩
theorem limShr4_0 (x : Nat → Int) (n : Int) (w : World) (hn : n < 1) :
    Calls Tryz.prog 149 #[.agg (arrOf x 4), .int .i64 n] w fun e w' => e = .returned (.agg (arrOf x 4)) ∧ Below w.heap.size w w' := by
  have sx : (arrOf x 4).size = 4 := arrOf_size x 4
  have gx := fun i h => arrOf_get x 4 i h
  have hl : arrOf x 4 = #[.int .u64 (x 0), .int .u64 (x 1), .int .u64 (x 2), .int .u64 (x 3)] := rfl
  rw [hl]
  rw [hl] at sx gx
  clear gx sx
  go_enter Tryz.func149, Tryz.ntmps149
  go_wp2
  exact bodyPost_ret (v := .agg #[.int .u64 (x 0), .int .u64 (x 1), .int .u64 (x 2), .int .u64 (x 3)]) (by simp [results, Tryz.results149, go_sem]) rfl ⟨rfl, ((Below.refl _ _).alloc (Nat.le_refl _) _).alloc (by simp) _⟩

theorem lenL_succ (x : Nat → Int) (n : Nat) : lenL x (n + 1) = if x n = 0 then lenL x n else 64 * (n : Int) + Lib.bitLen (x n).toNat := by
  by_cases h : x n = 0
  · simp [lenL, sizeL, h]
  · simp [lenL, sizeL, h]; omega

theorem limLen4 (cs : Array Value) (x : Nat → Int) (w : World) (hx : ∀ i, 0 ≤ x i ∧ x i ≤ 18446744073709551615) (hsz : cs.size = 4) (hc : ∀ i, i < 4 → cs[i]? = some (.int .u64 (x i))) :
    Calls Tryz.prog 143 #[.agg cs] w fun e w' => e = .returned (.int .i64 (lenL x 4)) ∧ w' = w.alloc (.cells cs 23) := by
  go_enter Tryz.func143, Tryz.ntmps143
  go_wp2
  go_loop [3] (fun t => ∃ k : Nat, k ≤ 4 ∧ lenL x k = lenL x 4 ∧ t = .int .i64 ((k : Int) - 1)) (fun t => (intOf t + 1).toNat)
  case atStart => exact ⟨4, Nat.le_refl _, rfl, rfl⟩
  case round =>
    obtain ⟨k, hk, hs, rfl⟩ := hrel
    by_cases h0 : k = 0
    · subst h0
      have HS : Hid (lenL x 4 = 0) := hs.symm
      clear hs
      go_wp2
      go_ret
      exact ⟨ret_int HS.out.symm, rfl⟩
    · obtain ⟨j, rfl⟩ : ∃ j, k = j + 1 := ⟨k - 1, by omega⟩
      have hcj := hc j (by omega)
      have hb := hx j
      have hbl := bitLen64 (x j).toNat
      have hj8 : (j : Int) < 4 := by omega
      have ej : ((j + 1 : Nat) : Int) - 1 = j := by omega
      rw [ej]
      by_cases hz : x j = 0
      · have HS : Hid (lenL x j = lenL x 4) := by
          have := lenL_succ x j
          rw [if_pos hz] at this
          exact this.symm.trans hs
        clear hs hc hx
        go_wp2
        go_round
        case rel => exact ⟨j, by omega, HS.out, by go_num⟩
        case measure => simp [intOf]
      · have HS : Hid (64 * (j : Int) + Lib.bitLen (x j).toNat = lenL x 4) := by
          have := lenL_succ x j
          rw [if_neg hz] at this
          exact this.symm.trans hs
        have hcl := Tryz.bits_Len64 (x j) (w.alloc (.cells cs 23)) hb.1 hb.2
        clear hs hc hx
        generalize Lib.bitLen (x j).toNat = L at *
        go_wp2_with (go_at_call 58; refine hcl.mono ?_; rintro e w' ⟨rfl, rfl⟩)
        go_ret
        exact ⟨ret_int (by rw [← HS.out]; omega), rfl⟩

def bitV (v n : Int) : Int := bits BinOp.and IntKind.u64 (v / 2 ^ (n % 64).toNat) 1

theorem limBit4 (x : Nat → Int) (n : Int) (w : World) (hx : Words x) (h0 : 0 ≤ n) (h1 : n < 256) :
    Calls Tryz.prog 148 #[.agg (arrOf x 4), .int .i64 n] w fun e w' => e = .returned (.int .u64 (bitV (x (n / 64).toNat) n)) ∧ Below w.heap.size w w' := by
  have hsz : (arrOf x 4).size = 4 := arrOf_size x 4
  have hc : ∀ h, (arrOf x 4)[(n / 64).toNat]'h = .int .u64 (x (n / 64).toNat) := fun h => arrOf_get x 4 _ h
  have hb := hx (n / 64).toNat
  generalize arrOf x 4 = cs at *
  generalize hv : x (n / 64).toNat = v at *
  clear hv
  have hj : n / 64 < 4 := by omega
  have hj0 : 0 ≤ n / 64 := by omega
  have hm : n % 64 < 64 := by omega
  have hm0 : 0 ≤ n % 64 := by omega
  go_enter Tryz.func148, Tryz.ntmps148
  go_wp2
  go_ret
  exact ⟨rfl, (Below.refl _ _).alloc (Nat.le_refl _) _⟩

theorem len4 (x : Nat → Int) (w : World) (hx : Words x) : Calls Tryz.prog 143 #[.agg (arrOf x 4)] w fun e w' => e = .returned (.int .i64 (lenL x 4)) ∧ Below w.heap.size w w' :=
  (limLen4 (arrOf x 4) x w hx (by simp) (fun i h => arrOf_get? x 4 i h)).mono fun _ _ ⟨h1, h2⟩ => ⟨h1, by rw [h2]; exact (Below.refl _ _).alloc (Nat.le_refl _) _⟩
def shlA (x : Nat → Int) (n : Int) (j : Nat) : Int := if n < 1 then x j else shlL x (n / 64).toNat (n % 64).toNat j
def shrA (x : Nat → Int) (n : Int) (N j : Nat) : Int := if n < 1 then x j else shrL x (n / 64).toNat (n % 64).toNat N j
theorem lowW_lt {x : Nat → Int} {N i : Nat} (h : i < N) : lowW x N i = x i := by unfold lowW; rw [if_pos h]
theorem lowW_ge {x : Nat → Int} {N i : Nat} (h : N ≤ i) : lowW x N i = 0 := by unfold lowW; rw [if_neg (by omega)]
theorem div64_zero (a : Int) (h : 0 ≤ a ∧ a ≤ 18446744073709551615) : a / 2 ^ (64 - 0) = 0 := by
  have e : (2 : Int) ^ (64 - 0) = 18446744073709551616 := by decide
  rw [e]; omega
theorem wrap64_zero (a : Int) : IntKind.u64.wrap (a * 2 ^ (64 - 0)) = 0 := by
  have e : (2 : Int) ^ (64 - 0) = 18446744073709551616 := by decide
  rw [e]
  simp only [IntKind.wrap, IntKind.bits, IntKind.signed]
  simp
theorem shlL_fin {x : Nat → Int} (hx : Words x) {N : Nat} (q r : Nat) : lowW (shlL x q r) N = lowW (finL (lowW x N) q r) N := by
  funext j
  by_cases hj : j < N
  · rw [lowW_lt hj, lowW_lt hj]
    unfold shlL finL
    by_cases hq : q ≤ j
    · rw [if_pos hq, if_pos hq, lowW_lt (x := x) (N := N) (i := j - q) (by omega)]
      by_cases h : q < j
      · rw [if_pos h]
        have e : lowp (lowW x N) q r j = x (j - q - 1) / 2 ^ (64 - r) := by
          unfold lowp
          rw [lowW_lt (x := x) (N := N) (i := j - q - 1) (by omega)]
          by_cases hr : 0 < r
          · rw [if_pos ⟨by omega, hr⟩]
          · have hr0 : r = 0 := by omega
            subst hr0
            rw [if_neg (by omega), div64_zero _ (hx _)]
        rw [e]
        exact orW_comm _ _ (wrap_word _) (div_word _ _ (hx _))
      · rw [if_neg h]
        have e : lowp (lowW x N) q r j = 0 := by unfold lowp; rw [if_neg (by omega)]
        rw [e, zero_orW _ (wrap_word _)]
    · rw [if_neg hq, if_neg hq]
  · rw [lowW_ge (by omega), lowW_ge (by omega)]
theorem shrL_fin {x : Nat → Int} (hx : Words x) {N : Nat} (q r : Nat) : lowW (shrL x q r N) N = shrW (lowW x N) q r := by
  funext j
  by_cases hj : j < N
  · rw [lowW_lt hj]
    by_cases hq : q + j < N
    · unfold shrL shrW
      rw [if_pos hq, lowW_lt hq]
      by_cases hr : r = 0
      · subst hr
        rw [if_pos rfl]
        have e : x (q + j) / 2 ^ 0 = x (q + j) := by simp
        rw [e, wrap64_zero]
        by_cases h : q + j + 1 < N
        · rw [if_pos h]; exact orW_zero _ (hx _)
        · rw [if_neg h]
      · rw [if_neg hr]
        by_cases h : q + j + 1 < N
        · rw [if_pos h, lowW_lt h]; rfl
        · rw [if_neg h, lowW_ge (x := x) (N := N) (i := q + j + 1) (by omega), Int.zero_mul]
          rw [show IntKind.u64.wrap 0 = 0 by decide, orW_zero _ (div_word _ _ (hx _))]
    · rw [shrW_zero (n := N) (fun i hi => lowW_ge hi) q r j (by omega)]
      unfold shrL; rw [if_neg hq]
  · rw [lowW_ge (by omega), shrW_zero (n := N) (fun i hi => lowW_ge hi) q r j (by omega)]
theorem shlA_words {x : Nat → Int} (hx : Words x) (n : Int) : Words (shlA x n) := fun j => by
  unfold shlA; split
  · exact hx j
  · unfold shlL; split
    · split
      · exact orW_word _ _ (wrap_word _) (div_word _ _ (hx _))
      · exact wrap_word _
    · decide
theorem shrA_words {x : Nat → Int} (hx : Words x) (n : Int) (N : Nat) : Words (shrA x n N) := fun j => by
  unfold shrA; split
  · exact hx j
  · unfold shrL; split
    · split
      · exact orW_word _ _ (div_word _ _ (hx _)) (wrap_word _)
      · exact div_word _ _ (hx _)
    · decide
theorem shlA4 (x : Nat → Int) (n : Int) (w : World) (hx : Words x) (hn2 : n ≤ 9223372036854775807) :
    Calls Tryz.prog 150 #[.agg (arrOf x 4), .int .i64 n] w fun e w' => e = .returned (.agg (arrOf (shlA x n) 4)) ∧ Below w.heap.size w w' := by
  by_cases h1 : n < 1
  · have e : shlA x n = x := by funext j; unfold shlA; rw [if_pos h1]
    rw [e]; exact limShl4_0 x n w h1
  · have e : shlA x n = shlL x (n / 64).toNat (n % 64).toNat := by funext j; unfold shlA; rw [if_neg h1]
    rw [e]; exact limShl4 x n _ _ w hx (by omega) hn2 (by omega) (by omega) (by omega)
theorem shrA4 (x : Nat → Int) (n : Int) (w : World) (hx : Words x) (hn2 : n ≤ 9223372036854775807) :
    Calls Tryz.prog 149 #[.agg (arrOf x 4), .int .i64 n] w fun e w' => e = .returned (.agg (arrOf (shrA x n 4) 4)) ∧ Below w.heap.size w w' := by
  by_cases h1 : n < 1
  · have e : shrA x n 4 = x := by funext j; unfold shrA; rw [if_pos h1]
    rw [e]; exact limShr4_0 x n w h1
  · have e : shrA x n 4 = shrL x (n / 64).toNat (n % 64).toNat 4 := by funext j; unfold shrA; rw [if_neg h1]
    rw [e]; exact limShr4 x n _ _ w hx (by omega) hn2 (by omega) (by omega) (by omega)
end
/-- block g is N words, those of x, none of them frozen -/
def Own (g N : Nat) (x : Nat → Int) (w : World) : Prop := w.heap[g]? = some (.cells (arrOf x N) 22)
/-- all but block g is as it was (the count of draws aside) -/
structure Upd (g : Nat) (w w' : World) : Prop where
  os : w'.os = w.os
  tape : w'.tape = w.tape
  output : w'.output = w.output
  size : w'.heap.size = w.heap.size
  block : ∀ k, k ≠ g → w'.heap[k]? = w.heap[k]?
theorem Upd.refl (g : Nat) (w : World) : Upd g w w := ⟨rfl, rfl, rfl, rfl, fun _ _ => rfl⟩
theorem Upd.trans {g : Nat} {a b c : World} (h : Upd g a b) (k : Upd g b c) : Upd g a c :=
  ⟨k.os.trans h.os, k.tape.trans h.tape, k.output.trans h.output, k.size.trans h.size, fun i hi => (k.block i hi).trans (h.block i hi)⟩
theorem Upd.drewN {g : Nat} {a b : World} (h : Upd g a b) (m : Nat) : Upd g a (b.drewN m) := ⟨h.os, h.tape, h.output, h.size, h.block⟩
theorem Upd.drew {g : Nat} {a b : World} (h : Upd g a b) : Upd g a b.drew := ⟨h.os, h.tape, h.output, h.size, h.block⟩
theorem Upd.set {g : Nat} {a b : World} (h : Upd g a b) (i : Nat) (v : Value) : Upd g a (b.setCell ⟨g, i, none⟩ v) :=
  h.trans ⟨rfl, rfl, rfl, by simp [World.setCell], fun k hk => Below.heap_setCell _ _ _ _ hk⟩
theorem Upd.below {g B : Nat} {w w' : World} (h : Upd g w w') (hB : B ≤ g) : Below B w w' := ⟨h.os, h.tape, h.output, Nat.le_of_eq h.size.symm, fun k hk => h.block k (by omega)⟩
theorem Upd.num {g : Nat} {w w' : World} {b off n c : Nat} {x : Nat → Int} (h : Upd g w w') (hb : b ≠ g) (hN : Num w (some ⟨b, off, none⟩) n c x) : Num w' (some ⟨b, off, none⟩) n c x := by
  obtain ⟨h1, h2, h3, h4, h5⟩ := hN
  refine ⟨h1, h2, h3, h4, ?_⟩
  rcases h5 with ⟨h5, _⟩ | ⟨b', off', h6, h7, h8⟩
  · cases h5
  · cases h6
    exact Or.inr ⟨b, off, rfl, by rw [h.size]; exact h7, fun i hi => (World.cell?_of_block (w := w) (a := ⟨b, off + i, none⟩) (h.block b hb)).trans (h8 i hi)⟩
/-- a number that lies elsewhere stays -/
def Apart (a : Option Addr) (g : Nat) : Prop := ∀ p, a = some p → p.block ≠ g
theorem Upd.num' {g : Nat} {w w' : World} {a : Option Addr} {n c : Nat} {x : Nat → Int} (h : Upd g w w') (hb : Apart a g) (hN : Num w a n c x) : Num w' a n c x := by
  have hN' := hN
  obtain ⟨h1, h2, h3, h4, h5⟩ := hN'
  rcases h5 with ⟨rfl, rfl⟩ | ⟨b', off', rfl, h7, h8⟩
  · exact ⟨h1, h2, h3, h4, Or.inl ⟨rfl, rfl⟩⟩
  · exact h.num (hb _ rfl) hN
theorem Upd.own {g g' N : Nat} {w w' : World} {x : Nat → Int} (h : Upd g w w') (hb : g' ≠ g) (hN : Own g' N x w) : Own g' N x w' := (h.block g' hb).trans hN
theorem Below.own {B g N : Nat} {w w' : World} {x : Nat → Int} (h : Below B w w') (hb : g < B) (hN : Own g N x w) : Own g N x w' := (h.block g hb).trans hN

theorem Own.lt {g N : Nat} {x : Nat → Int} {w : World} (h : Own g N x w) : g < w.heap.size := by
  rcases Nat.lt_or_ge g w.heap.size with h' | h'
  · exact h'
  · unfold Own at h; rw [Array.getElem?_eq_none h'] at h; cases h
theorem Own.cell {g N : Nat} {x : Nat → Int} {w : World} (h : Own g N x w) (i : Nat) (hi : i < N) : w.cell? ⟨g, i, none⟩ = some (.int .u64 (x i)) := by
  unfold World.cell?
  have hh : w.heap[g]? = some (.cells (arrOf x N) 22) := h
  simp [hh, arrOf_get? x N i hi]
theorem Own.frozen {g N : Nat} {x : Nat → Int} {w : World} (h : Own g N x w) (i : Nat) : w.frozen? ⟨g, i, none⟩ = false := by
  unfold World.frozen?
  have hh : w.heap[g]? = some (.cells (arrOf x N) 22) := h
  simp [hh]
theorem Own.set {g N : Nat} {x : Nat → Int} {w : World} (h : Own g N x w) (i : Nat) (v : Int) : Own g N (fun j => if j = i then v else x j) (w.setCell ⟨g, i, none⟩ (.int .u64 v)) := by
  have hh : w.heap[g]? = some (.cells (arrOf x N) 22) := h
  show (w.setCell ⟨g, i, none⟩ (.int .u64 v)).heap[g]? = _
  simp only [World.setCell, Array.getElem?_modify, if_true, hh]
  simp [arrOf_set]
theorem Own.congr {g N : Nat} {x y : Nat → Int} {w : World} (h : Own g N x w) (e : ∀ i, i < N → x i = y i) : Own g N y w := by
  unfold Own; rw [← arrOf_congr e]; exact h
theorem Own.new (w : World) (x : Nat → Int) (N : Nat) : Own w.heap.size N x (w.alloc (.cells (arrOf x N) 22)) := (MapKept.heap_alloc w _).1
/-- words off to off + m of the block, as a number -/
def segW (x : Nat → Int) (off m i : Nat) : Int := if i < m then x (off + i) else 0
theorem segW_words {x : Nat → Int} (hx : Words x) (off m : Nat) : Words (segW x off m) := fun i => by unfold segW; split; exact hx _; decide
theorem segW_zero (x : Nat → Int) (off m i : Nat) (h : m ≤ i) : segW x off m i = 0 := by unfold segW; rw [if_neg (by omega)]
theorem segW_lt (x : Nat → Int) (off m i : Nat) (h : i < m) : segW x off m i = x (off + i) := by unfold segW; rw [if_pos h]
theorem Own.num {g N : Nat} {x : Nat → Int} {w : World} (h : Own g N x w) (hx : Words x) (off m c : Nat) (hm : off + m ≤ N) (hc : m ≤ c) (hc2 : c ≤ maxLen) : Num w (some ⟨g, off, none⟩) m c (segW x off m) :=
  ⟨hc, hc2, segW_words hx off m, fun i hi => segW_zero x off m i hi, Or.inr ⟨g, off, rfl, h.lt, fun i hi => by rw [h.cell (off + i) (by omega), segW_lt x off m i hi]⟩⟩
theorem wrapNat (a : Nat) : IntKind.u64.wrap (a : Int) = ((a % 18446744073709551616 : Nat) : Int) := by
  simp only [IntKind.wrap, IntKind.bits, IntKind.signed]
  simp
theorem andLow (a : Nat) (h : a < 18446744073709551616) : bits BinOp.and IntKind.u64 (a : Int) 4294967295 = ((a % 4294967296 : Nat) : Int) := by
  have h1 := u64_and_nat a 4294967295 h (by decide)
  rw [show ((4294967295 : Nat) : Int) = 4294967295 from rfl] at h1
  rw [h1]
  have := Nat.and_two_pow_sub_one_eq_mod a 32
  rw [show (2 : Nat) ^ 32 - 1 = 4294967295 by decide, show (2 : Nat) ^ 32 = 4294967296 by decide] at this
  rw [this]
theorem powCast (s : Nat) : ((2 ^ s : Nat) : Int) = (2 : Int) ^ s := by simp

theorem div64_pos (h l y : Nat) (w : World) (hh : 0 < h) (hl : l < 18446744073709551616) (hy : h < y) (hy64 : y < 18446744073709551616) :
    Calls Tryz.prog 117 #[.int .u64 h, .int .u64 l, .int .u64 y] w fun e w' => e = .returned (.tuple #[.int .u64 (((h * 18446744073709551616 + l) / y : Nat) : Int), .int .u64 (((h * 18446744073709551616 + l) % y : Nat) : Int)]) ∧ ∃ m, w' = w.drewN m := by
  obtain ⟨n1, n2, n3⟩ := norm_bd y (by omega) hy64
  have hbl := bitLen_spec y (by omega) hy64
  obtain ⟨S, hS⟩ : ∃ S, 64 - Lib.bitLen y = S := ⟨_, rfl⟩
  rw [hS] at n1 n2 n3
  obtain ⟨j1, j2, j3⟩ := norm_join h l y S n3 hy hl n2
  have hlz : Calls Tryz.prog 151 #[.int .u64 y] w fun e w' => e = .returned (.int .i64 (S : Int)) ∧ w = w' := by
    refine (Tryz.bits_LeadingZeros64 (y : Int) w (by omega) (by omega)).mono fun e w' hw => ⟨?_, hw.2.symm⟩
    rw [hw.1, Int.toNat_natCast]
    have e0 : (64 : Int) - (Lib.bitLen y : Int) = (S : Int) := by omega
    rw [e0]
  obtain ⟨Y, hYn⟩ : ∃ Y, y * 2 ^ S = Y := ⟨_, rfl⟩
  obtain ⟨u, hun⟩ : ∃ u, h * 2 ^ S + l / 2 ^ (64 - S) = u := ⟨_, rfl⟩
  obtain ⟨v, hvn⟩ : ∃ v, l * 2 ^ S % 18446744073709551616 = v := ⟨_, rfl⟩
  have hv64 : v < 18446744073709551616 := by rw [← hvn]; exact Nat.mod_lt _ (by decide)
  have hhS : h * 2 ^ S < 18446744073709551616 := by
    have : h * 2 ^ S ≤ y * 2 ^ S := Nat.mul_le_mul_right _ (by omega)
    omega
  have hls : l / 2 ^ (64 - S) < 18446744073709551616 := Nat.lt_of_le_of_lt (Nat.div_le_self _ _) hl
  rw [hYn] at n1 n2 j3
  rw [hun] at j1 j2 j3
  rw [hvn] at j2
  -- the digits
  obtain ⟨d1, hd1⟩ : ∃ d1, Y / 4294967296 = d1 := ⟨_, rfl⟩
  obtain ⟨d0, hd0⟩ : ∃ d0, Y % 4294967296 = d0 := ⟨_, rfl⟩
  obtain ⟨e1, he1⟩ : ∃ e1, v / 4294967296 = e1 := ⟨_, rfl⟩
  obtain ⟨e0, he0⟩ : ∃ e0, v % 4294967296 = e0 := ⟨_, rfl⟩
  have hYd : Y = d1 * 4294967296 + d0 := by omega
  have hve : v = e1 * 4294967296 + e0 := by omega
  have hYpos : 0 < Y := by omega
  obtain ⟨Q1, hQ1⟩ : ∃ Q1, (u * 4294967296 + e1) / Y = Q1 := ⟨_, rfl⟩
  obtain ⟨R1, hR1⟩ : ∃ R1, (u * 4294967296 + e1) % Y = R1 := ⟨_, rfl⟩
  have hR1l : R1 < Y := by rw [← hR1]; exact Nat.mod_lt _ hYpos
  obtain ⟨Q0, hQ0⟩ : ∃ Q0, (R1 * 4294967296 + e0) / Y = Q0 := ⟨_, rfl⟩
  obtain ⟨R0, hR0⟩ : ∃ R0, (R1 * 4294967296 + e0) % Y = R0 := ⟨_, rfl⟩
  have hR0l : R0 < Y := by rw [← hR0]; exact Nat.mod_lt _ hYpos
  have m1 : Q1 * Y + R1 = u * 4294967296 + e1 := by
    have := Nat.div_add_mod (u * 4294967296 + e1) Y
    rw [hQ1, hR1, Nat.mul_comm] at this; exact this
  have m0 : Q0 * Y + R0 = R1 * 4294967296 + e0 := by
    have := Nat.div_add_mod (R1 * 4294967296 + e0) Y
    rw [hQ0, hR0, Nat.mul_comm] at this; exact this
  have cY : (d1 : Int) * 4294967296 + d0 = (Y : Int) := by omega
  have iQ1 : ((u : Int) * 4294967296 + e1) / (d1 * 4294967296 + d0) = Q1 := by
    rw [cY, show (u : Int) * 4294967296 + e1 = ((u * 4294967296 + e1 : Nat) : Int) by omega, ← Int.natCast_ediv, hQ1]
  have iQ0 : ((R1 : Int) * 4294967296 + e0) / (d1 * 4294967296 + d0) = Q0 := by
    rw [cY, show (R1 : Int) * 4294967296 + e0 = ((R1 * 4294967296 + e0 : Nat) : Int) by omega, ← Int.natCast_ediv, hQ0]
  have p1 : ((Q1 * Y : Nat) : Int) = (Q1 : Int) * Y := Int.natCast_mul ..
  have p0 : ((Q0 * Y : Nat) : Int) = (Q0 : Int) * Y := Int.natCast_mul ..
  have iR1 : (u : Int) * 4294967296 + e1 - Q1 * Y = R1 := by rw [← p1]; omega
  have iR0 : (R1 : Int) * 4294967296 + e0 - Q0 * Y = R0 := by rw [← p0]; omega
  have D1 : Dg (u : Int) d1 d0 e1 := ⟨by omega, by omega, by omega, by omega, by omega, by omega, by omega, by omega⟩
  have D0 : Dg (R1 : Int) d1 d0 e0 := ⟨by omega, by omega, by omega, by omega, by omega, by omega, by omega, by omega⟩
  have wY : IntKind.u64.wrap ((y : Int) * 2 ^ S) = (Y : Int) := by
    rw [← powCast, ← Int.natCast_mul, wrapNat, hYn, Nat.mod_eq_of_lt n2]
  have wv : IntKind.u64.wrap ((l : Int) * 2 ^ S) = (v : Int) := by
    rw [← powCast, ← Int.natCast_mul, wrapNat, hvn]
  have wu : bits BinOp.or IntKind.u64 (IntKind.u64.wrap ((h : Int) * 2 ^ S)) ((l : Int) / 2 ^ (64 - S)) = (u : Int) := by
    rw [← powCast, ← powCast, ← Int.natCast_mul, wrapNat, ← Int.natCast_ediv, Nat.mod_eq_of_lt hhS, u64_or_nat _ _ hhS hls, j1]
  have fin := norm_back (h * 18446744073709551616 + l) y S (Q1 * 4294967296 + Q0) R0 (by
    rw [← j2, hYn, Nat.add_mul, Nat.mul_right_comm]
    omega) (by rw [hYn]; exact hR0l)
  have core := div64_core (h : Int) l y Y d1 d0 u v e1 e0 Q1 R1 Q0 R0 S w (by omega) ⟨by omega, by omega⟩ ⟨by omega, by omega⟩ n3 hlz wY (by omega) (by rw [andLow Y n2, hd0]) wu wv (by omega) (by rw [andLow v hv64, he0]) D1 D0 cY.symm (by omega) iQ1 iR1 iQ0 iR0 ⟨by omega, by omega⟩
  refine core.mono fun e w' hw => ⟨?_, hw.2⟩
  rw [hw.1]
  have c1 : (Q1 : Int) * 4294967296 + Q0 = (((h * 18446744073709551616 + l) / y : Nat) : Int) := by rw [← fin.1]; omega
  have c2 : (R0 : Int) / 2 ^ S = (((h * 18446744073709551616 + l) % y : Nat) : Int) := by rw [← fin.2, ← powCast, ← Int.natCast_ediv]
  rw [c1, c2]

theorem div64_all (hi lo y : Int) (w : World) (h0 : 0 ≤ hi) (hy : hi < y) (hy64 : y ≤ 18446744073709551615) (hl : 0 ≤ lo ∧ lo ≤ 18446744073709551615) :
    Calls Tryz.prog 117 #[.int .u64 hi, .int .u64 lo, .int .u64 y] w fun e w' => e = .returned (.tuple #[.int .u64 ((hi * 18446744073709551616 + lo) / y), .int .u64 ((hi * 18446744073709551616 + lo) % y)]) ∧ ∃ m, w' = w.drewN m := by
  by_cases e : hi = 0
  · subst e
    have := div64_0 lo y w hl ⟨by omega, hy64⟩
    simpa using this
  · obtain ⟨h, rfl⟩ := Int.eq_ofNat_of_zero_le h0
    obtain ⟨l, rfl⟩ := Int.eq_ofNat_of_zero_le hl.1
    obtain ⟨z, rfl⟩ := Int.eq_ofNat_of_zero_le (show 0 ≤ y by omega)
    refine (div64_pos h l z w (by omega) (by omega) (by omega) (by omega)).mono fun e w' hw => ⟨?_, hw.2⟩
    rw [hw.1, Int.natCast_ediv, Int.natCast_emod, Int.natCast_add, Int.natCast_mul]
    rfl
section
attribute [local go_sem] setCell_drewN alloc_drewN

theorem quoW_words {x : Nat → Int} {d : Int} (hx : Words x) (hd : 0 < d) (n : Nat) : Words (quoW x d n) := fun j => by
  have hr := remJ_bd x d n (n - 1 - j) hd
  have hb := hx j
  unfold quoW
  refine ⟨Int.ediv_nonneg (by omega) (by omega), ?_⟩
  have : (remJ x d n (n - 1 - j) * 18446744073709551616 + x j) / d < 18446744073709551616 := by
    apply Int.ediv_lt_of_lt_mul hd
    rw [Int.mul_comm 18446744073709551616 d]
    have : (remJ x d n (n - 1 - j) + 1) * 18446744073709551616 ≤ d * 18446744073709551616 := Int.mul_le_mul_of_nonneg_right (by omega) (by decide)
    omega
  omega
theorem div_val (x : Nat → Int) (d : Int) (n : Nat) : ∀ j, j ≤ n → val x (n - j) + remJ x d n j * 18446744073709551616 ^ (n - j) + d * (val (quoW x d n) n - val (quoW x d n) (n - j)) = val x n
  | 0, _ => by simp [remJ]
  | j + 1, h => by
    have ih := div_val x d n j (by omega)
    obtain ⟨k, hk⟩ : ∃ k, n - j = k + 1 := ⟨n - j - 1, by omega⟩
    have hk2 : n - (j + 1) = k := by omega
    have hk3 : n - 1 - j = k := by omega
    have hk4 : n - 1 - k = j := by omega
    rw [hk] at ih
    rw [hk2]
    have hq : quoW x d n k = (remJ x d n j * 18446744073709551616 + x k) / d := by unfold quoW; rw [hk4]
    have hr : remJ x d n (j + 1) = (remJ x d n j * 18446744073709551616 + x k) % d := by simp only [remJ]; rw [hk3]
    have hdm := Int.mul_ediv_add_emod (remJ x d n j * 18446744073709551616 + x k) d
    rw [← hq, ← hr] at hdm
    simp only [val] at ih
    rw [Int.pow_succ] at ih
    generalize (18446744073709551616 : Int) ^ k = p at *
    generalize remJ x d n (j + 1) = r' at *
    generalize remJ x d n j = r at *
    generalize quoW x d n k = q at *
    have e1 : x k = d * q + r' - r * 18446744073709551616 := by omega
    rw [e1] at ih
    grind
theorem sum_val {x y : Nat → Int} : ∀ n, val (sumW x y) n + carryW x y n * 18446744073709551616 ^ n = val x n + val y n
  | 0 => by simp [val, carryW]
  | n + 1 => by
    have ih := sum_val (x := x) (y := y) n
    have e1 : sumW x y n + carryW x y (n + 1) * 18446744073709551616 = x n + y n + carryW x y n := by simp only [sumW, carryW]; omega
    simp only [val]
    rw [Int.pow_succ]
    generalize (18446744073709551616 : Int) ^ n = p at *
    generalize carryW x y (n + 1) = c' at *
    have e2 : sumW x y n = x n + y n + carryW x y n - c' * 18446744073709551616 := by omega
    rw [e2]
    grind
set_option maxHeartbeats 400000 in
theorem limDiv_ok (x : Nat → Int) (d : Int) (n : Nat) (hx : Words x) (hd : 0 < d ∧ d ≤ 18446744073709551615) (j : Nat) (hj : j < n) (w : World) : Calls Tryz.prog 117 #[.int .u64 (remJ x d n (n - 1 - j)), .int .u64 (x j), .int .u64 d] w fun e w' => e = .returned (.tuple #[.int .u64 (quoW x d n j), .int .u64 (remJ x d n (n - j))]) ∧ ∃ m, w' = w.drewN m := by
  have hr := remJ_bd x d n (n - 1 - j) hd.1
  have h := div64_all (remJ x d n (n - 1 - j)) (x j) d w hr.1 hr.2 hd.2 (hx j)
  have e1 : remJ x d n (n - j) = (remJ x d n (n - 1 - j) * 18446744073709551616 + x j) % d := by
    obtain ⟨k, hk⟩ : ∃ k, n - j = k + 1 := ⟨n - j - 1, by omega⟩
    rw [hk, show n - 1 - j = k by omega]
    simp only [remJ]; rw [show n - 1 - k = j by omega]
  rw [e1]; exact h
end
section
theorem sizeL_congr {x y : Nat → Int} : ∀ n, (∀ i, i < n → x i = y i) → sizeL x n = sizeL y n
  | 0, _ => rfl
  | n + 1, h => by simp only [sizeL]; rw [h n (by omega), sizeL_congr n fun i hi => h i (by omega)]
theorem val_bare {x : Nat → Int} (m : Nat) : val x (sizeL x m) = val x m := by
  have h1 := val_more (sizeL_zero m fun i hi => segW_zero x 0 m i hi) m (sizeL_le _ m)
  have h2 : sizeL (segW x 0 m) m = sizeL x m := sizeL_congr m fun i hi => by rw [segW_lt x 0 m i hi, Nat.zero_add]
  rw [h2] at h1
  have hle := sizeL_le x m
  rw [val_congr (x := segW x 0 m) (y := x) m fun i hi => by rw [segW_lt x 0 m i hi, Nat.zero_add], val_congr (x := segW x 0 m) (y := x) (sizeL x m) fun i hi => by rw [segW_lt x 0 m i (by omega), Nat.zero_add]] at h1
  exact h1.symm

/-- -1, 0, 1 -/
def sgn (a b : Int) : Int := if a < b then -1 else if b < a then 1 else 0
theorem sgn_neg (a b : Int) : sgn b a = - sgn a b := by unfold sgn; split <;> split <;> first | omega | (split <;> omega) | rfl
theorem sgn_add (a b t : Int) : sgn (a + t) (b + t) = sgn a b := by
  unfold sgn
  by_cases h : a < b
  · rw [if_pos h, if_pos (by omega)]
  · rw [if_neg h, if_neg (by omega)]
    by_cases h' : b < a
    · rw [if_pos h', if_pos (by omega)]
    · rw [if_neg h', if_neg (by omega)]
theorem drw2 (w : World) (m a b : Nat) : ∃ k, w.drewN k = ((w.drewN m).drewN a).drewN b := ⟨m + a + b, by simp [World.drewN, Nat.add_assoc]⟩
theorem compare_u64 (a b : Int) (w : World) : Calls Tryz.prog 105 #[.int .u64 a, .int .u64 b] w fun e w' => e = .returned (.int .i64 (sgn a b)) ∧ w = w' := by
  have hN : ∀ (a : Int), Calls Tryz.prog 146 #[.int .u64 a] w fun e w' => e = .returned (.bool false) ∧ w = w' := by
    intro a
    go_enter Tryz.func146, Tryz.ntmps146
    go_wp2
    go_ret
    exact ⟨rfl, rfl⟩
  have ha := hN a
  have hb := hN b
  clear hN
  by_cases h1 : a < b
  · have HS : Hid (sgn a b = -1) := by show _ = _; unfold sgn; rw [if_pos h1]
    go_enter Tryz.func105, Tryz.ntmps105
    go_wp2_with (go_at_call 146; first | (refine ha.mono ?_; rintro e w' ⟨rfl, rfl⟩) | (refine hb.mono ?_; rintro e w' ⟨rfl, rfl⟩))
    go_ret
    exact ⟨ret_int HS.out.symm, rfl⟩
  · by_cases h2 : b < a
    · have HS : Hid (sgn a b = 1) := by show _ = _; unfold sgn; rw [if_neg h1, if_pos h2]
      go_enter Tryz.func105, Tryz.ntmps105
      go_wp2_with (go_at_call 146; first | (refine ha.mono ?_; rintro e w' ⟨rfl, rfl⟩) | (refine hb.mono ?_; rintro e w' ⟨rfl, rfl⟩))
      go_ret
      exact ⟨ret_int HS.out.symm, rfl⟩
    · have HS : Hid (sgn a b = 0) := by show _ = _; unfold sgn; rw [if_neg h1, if_neg h2]
      go_enter Tryz.func105, Tryz.ntmps105
      go_wp2_with (go_at_call 146; first | (refine ha.mono ?_; rintro e w' ⟨rfl, rfl⟩) | (refine hb.mono ?_; rintro e w' ⟨rfl, rfl⟩))
      go_ret
      exact ⟨ret_int HS.out.symm, rfl⟩
theorem compare_int (a b : Int) (w : World) : Calls Tryz.prog 72 #[.int .i64 a, .int .i64 b] w fun e w' => e = .returned (.int .i64 (sgn a b)) ∧ w = w' := by
  have hN : ∀ (a : Int), Calls Tryz.prog 104 #[.int .i64 a] w fun e w' => e = .returned (.bool false) ∧ w = w' := by
    intro a
    go_enter Tryz.func104, Tryz.ntmps104
    go_wp2
    go_ret
    exact ⟨rfl, rfl⟩
  have ha := hN a
  have hb := hN b
  clear hN
  by_cases h1 : a < b
  · have HS : Hid (sgn a b = -1) := by show _ = _; unfold sgn; rw [if_pos h1]
    go_enter Tryz.func72, Tryz.ntmps72
    go_wp2_with (go_at_call 104; first | (refine ha.mono ?_; rintro e w' ⟨rfl, rfl⟩) | (refine hb.mono ?_; rintro e w' ⟨rfl, rfl⟩))
    go_ret
    exact ⟨ret_int HS.out.symm, rfl⟩
  · by_cases h2 : b < a
    · have HS : Hid (sgn a b = 1) := by show _ = _; unfold sgn; rw [if_neg h1, if_pos h2]
      go_enter Tryz.func72, Tryz.ntmps72
      go_wp2_with (go_at_call 104; first | (refine ha.mono ?_; rintro e w' ⟨rfl, rfl⟩) | (refine hb.mono ?_; rintro e w' ⟨rfl, rfl⟩))
      go_ret
      exact ⟨ret_int HS.out.symm, rfl⟩
    · have HS : Hid (sgn a b = 0) := by show _ = _; unfold sgn; rw [if_neg h1, if_neg h2]
      go_enter Tryz.func72, Tryz.ntmps72
      go_wp2_with (go_at_call 104; first | (refine ha.mono ?_; rintro e w' ⟨rfl, rfl⟩) | (refine hb.mono ?_; rintro e w' ⟨rfl, rfl⟩))
      go_ret
      exact ⟨ret_int HS.out.symm, rfl⟩

/-- comparing words from the highest on is comparing values -/
theorem cmpL_val {x y : Nat → Int} (hx : Words x) (hy : Words y) : ∀ n, cmpL x y n = sgn (val x n) (val y n)
  | 0 => by simp [cmpL, sgn, val]
  | n + 1 => by
    have hxb := val_bd hx n
    have hyb := val_bd hy n
    have ih := cmpL_val hx hy n
    have hp := pw_pos n
    have e1 : val x (n + 1) = val x n + x n * 18446744073709551616 ^ n := rfl
    have e2 : val y (n + 1) = val y n + y n * 18446744073709551616 ^ n := rfl
    rw [e1, e2]
    simp only [cmpL]
    generalize (18446744073709551616 : Int) ^ n = P at *
    by_cases h1 : x n < y n
    · rw [if_pos h1]
      have : (x n + 1) * P ≤ y n * P := Int.mul_le_mul_of_nonneg_right (by omega) (by omega)
      rw [Int.add_mul, Int.one_mul] at this
      unfold sgn; rw [if_pos (by omega)]
    · rw [if_neg h1]
      by_cases h2 : y n < x n
      · rw [if_pos h2]
        have : (y n + 1) * P ≤ x n * P := Int.mul_le_mul_of_nonneg_right (by omega) (by omega)
        rw [Int.add_mul, Int.one_mul] at this
        unfold sgn; rw [if_neg (by omega), if_pos (by omega)]
      · have e : x n = y n := by omega
        rw [if_neg h2, ih, e, sgn_add]
/-- the longer one of two trimmed numbers is the greater -/
theorem val_longer {x y : Nat → Int} (hx : Words x) (hy : Words y) {n m : Nat} (h : n < m) (hm : sizeL y m = m) : val x n < val y m := by
  obtain ⟨k, rfl⟩ : ∃ k, m = k + 1 := ⟨m - 1, by omega⟩
  have hne : y k ≠ 0 := by
    intro e
    have : sizeL y (k + 1) = sizeL y k := by simp [sizeL, e]
    have := sizeL_le y k
    omega
  have h1 := (val_bd hx n).2
  have h2 := (val_bd hy k).1
  have h3 := pw_pos k
  have h4 := hy k
  have h5 : (18446744073709551616 : Int) ^ n ≤ 18446744073709551616 ^ k := by
    obtain ⟨q, rfl⟩ : ∃ q, k = n + q := ⟨k - n, by omega⟩
    rw [Int.pow_add]
    have := pw_pos n
    have := pw_pos q
    have : (18446744073709551616 : Int) ^ n * 1 ≤ 18446744073709551616 ^ n * 18446744073709551616 ^ q := Int.mul_le_mul_of_nonneg_left (by omega) (by omega)
    omega
  show _ < val y k + y k * 18446744073709551616 ^ k
  have : 1 * 18446744073709551616 ^ k ≤ y k * 18446744073709551616 ^ k := Int.mul_le_mul_of_nonneg_right (by omega) (by omega)
  omega

set_option maxHeartbeats 1000000 in
theorem ncmp_any (a a' : Option Addr) (n c n' c' : Nat) (x y : Nat → Int) (w : World) (hn : n < 4294967296) (hn' : n' < 4294967296) (h : Num w a n c x) (h' : Num w a' n' c' y) :
    Calls Tryz.prog 73 #[.slice a n c, .slice a' n' c'] w fun e w' => e = .returned (.int .i64 (sgn (val x n) (val y n'))) ∧ ∃ m, w.drewN m = w' := by
  have hb := bare_any a n c x w hn h
  have hb' := bare_any a' n' c' y w hn' h'
  rw [← val_bare n, ← val_bare n']
  have hx := h.2.2.1
  have hy := h'.2.2.1
  have h1 := sizeL_sizeL x n
  have h1' := sizeL_sizeL y n'
  have hle := sizeL_le x n
  have hle' := sizeL_le y n'
  have hN := h.bare
  have hN' := h'.bare
  generalize sizeL x n = s at *
  generalize sizeL y n' = s' at *
  have HV : Hid (∀ k, cmpL x y k = sgn (val x k) (val y k)) := cmpL_val hx hy
  have HL1 : Hid (s < s' → sgn (val x s) (val y s') = sgn s s') := fun hlt => by
    have := val_longer hx hy hlt h1'
    unfold sgn; rw [if_pos this, if_pos (by omega)]
  have HL2 : Hid (s' < s → sgn (val x s) (val y s') = sgn s s') := fun hlt => by
    have := val_longer hy hx hlt h1
    unfold sgn; rw [if_neg (by omega), if_pos this, if_neg (by omega), if_pos (by omega)]
  clear h h' h1 h1' hx hy
  by_cases e : s = s'
  · subst e
    have hc : ∀ i, i < s → ∃ b off, a = some ⟨b, off, none⟩ ∧ w.cell? ⟨b, off + i, none⟩ = some (.int .u64 (x i)) := by
      intro i hi
      have h5 := hN.2.2.2.2
      rcases h5 with ⟨_, h⟩ | ⟨b, off, h, _, hc⟩
      · have := hN.1; omega
      · exact ⟨b, off, h, hc i hi⟩
    have hc' : ∀ i, i < s → ∃ b off, a' = some ⟨b, off, none⟩ ∧ w.cell? ⟨b, off + i, none⟩ = some (.int .u64 (y i)) := by
      intro i hi
      have h5 := hN'.2.2.2.2
      rcases h5 with ⟨_, h⟩ | ⟨b, off, h, _, hc⟩
      · have := hN'.1; omega
      · exact ⟨b, off, h, hc i hi⟩
    clear hN hN' HL1 HL2
    go_enter Tryz.func73, Tryz.ntmps73
    go_wp2_with (first | (go_at_call_of 103 (Value.slice a n c); refine hb.mono ?_; rintro e w' ⟨rfl, rfl⟩) | (go_at_call_of 103 (Value.slice a' n' c'); refine hb'.mono ?_; rintro e w' ⟨rfl, rfl⟩))
    go_loopw [7] (fun t wr => ∃ k m : Nat, k ≤ s ∧ cmpL x y k = cmpL x y s ∧ t = .int .i64 ((k : Int) - 1) ∧ w.drewN m = wr) (fun t _ => (intOf t + 1).toNat)
    case atStart => exact ⟨s, 0, Nat.le_refl _, rfl, by go_num, rfl⟩
    case round =>
      obtain ⟨k, m, hk, hs, rfl, rfl⟩ := hrel
      by_cases h0 : k = 0
      · subst h0
        have HS : Hid (sgn (val x s) (val y s) = 0) := by show _ = _; rw [← HV.out, ← hs]; rfl
        clear hs hc hc'
        go_wp2
        go_ret
        exact ⟨ret_int HS.out.symm, _, rfl⟩
      · obtain ⟨j, rfl⟩ : ∃ j, k = j + 1 := ⟨k - 1, by omega⟩
        have ej : ((j + 1 : Nat) : Int) - 1 = j := by omega
        have hjs : (j : Int) < s := by omega
        rw [ej]
        obtain ⟨b, off, rfl, hcj⟩ := hc j (by omega)
        obtain ⟨b', off', rfl, hcj'⟩ := hc' j (by omega)
        have hs' : (if x j < y j then -1 else if y j < x j then 1 else cmpL x y j) = cmpL x y s := hs
        have hcmp := compare_u64 (x j) (y j)
        by_cases he : x j = y j
        · have HR : Hid (cmpL x y j = cmpL x y s) := by rw [← hs', if_neg (by omega), if_neg (by omega)]; rfl
          have hne : (x j != y j) = false := by simp [he]
          rw [he] at hcj
          clear hs hs' hc hc' hcmp
          go_wp2
          go_quiet (fail)
          go_wp2
          go_roundw
          case rel => exact ⟨j, m + nq, by omega, HR.out, by go_num, rfl⟩
          case measure => simp [intOf]
        · have HR : Hid (sgn (val x s) (val y s) = sgn (x j) (y j)) := by
            show _ = _
            rw [← HV.out, ← hs']
            unfold sgn
            by_cases h1 : x j < y j
            · rw [if_pos h1, if_pos h1]
            · rw [if_neg h1, if_neg h1, if_pos (by omega), if_pos (by omega)]
          have hne : (x j != y j) = true := by simp [he]
          clear hs hs' hc hc'
          go_wp2
          go_quiet (fail)
          go_wp2
          go_quiet ((go_at_call 105; exact (hcmp _).mono fun _ _ h => ⟨h.1, _, h.2.symm⟩))
          go_wp2
          go_ret
          exact ⟨ret_int HR.out.symm, drw2 _ _ _ _⟩
  · have hne : ((s : Int) != s') = true := by simp; omega
    have hcmp := compare_int s s' w
    have HR : Hid (sgn (val x s) (val y s') = sgn s s') := by
      rcases Nat.lt_or_gt_of_ne e with h | h
      · exact HL1.out h
      · exact HL2.out h
    clear HL1 HL2 hN hN'
    go_enter Tryz.func73, Tryz.ntmps73
    go_wp2_with (first | (first | (go_at_call_of 103 (Value.slice a n c); refine hb.mono ?_; rintro e w' ⟨rfl, rfl⟩) | (go_at_call_of 103 (Value.slice a' n' c'); refine hb'.mono ?_; rintro e w' ⟨rfl, rfl⟩)) | (go_at_call 72; refine hcmp.mono ?_; rintro e w' ⟨rfl, rfl⟩))
    go_ret
    exact ⟨ret_int HR.out.symm, 0, rfl⟩

theorem sgn_self (a : Int) : sgn a a = 0 := by unfold sgn; rw [if_neg (by omega), if_neg (by omega)]
end
theorem Num.cells {w : World} {a : Option Addr} {n c : Nat} {x : Nat → Int} (h : Num w a n c x) (hn : 0 < n) : ∃ b off, a = some ⟨b, off, none⟩ ∧ b < w.heap.size ∧ ∀ i, i < n → w.cell? ⟨b, off + i, none⟩ = some (.int .u64 (x i)) := by
  rcases h.2.2.2.2 with ⟨_, h'⟩ | ⟨b, off, h', hb, hc⟩
  · have := h.1; omega
  · exact ⟨b, off, h', hb, hc⟩

theorem sum_end {x y : Nat → Int} {s s' N : Nat} (hx : Words x) (hy : Words y) (zx : ∀ i, s ≤ i → x i = 0) (zy : ∀ i, s' ≤ i → y i = 0) (h : s < N) (h' : s' < N) : carryW x y N = 0 := by
  obtain ⟨q, rfl⟩ : ∃ q, N = q + 1 := ⟨N - 1, by omega⟩
  have := carryW_01 hx hy q
  simp only [carryW]; rw [zx q (by omega), zy q (by omega)]; omega
theorem bor_val {x y b : Int} (hx : 0 ≤ x ∧ x ≤ 18446744073709551615) (hy : 0 ≤ y ∧ y ≤ 18446744073709551615) (hb : 0 ≤ b ∧ b ≤ 1) : (x - y - b) % 18446744073709551616 - bor x y b * 18446744073709551616 = x - y - b := by
  unfold bor; split <;> omega
theorem dif_val {x y : Nat → Int} (hx : Words x) (hy : Words y) : ∀ n, val (difW x y) n - borW x y n * 18446744073709551616 ^ n = val x n - val y n
  | 0 => by simp [val, borW]
  | n + 1 => by
    have ih := dif_val hx hy n
    have h := bor_val (hx n) (hy n) (borW_01 x y n)
    show val (difW x y) n + difW x y n * 18446744073709551616 ^ n - bor (x n) (y n) (borW x y n) * 18446744073709551616 ^ (n + 1) = val x n + x n * 18446744073709551616 ^ n - (val y n + y n * 18446744073709551616 ^ n)
    have hd : difW x y n = (x n - y n - borW x y n) % 18446744073709551616 := rfl
    rw [← hd] at h
    rw [Int.pow_succ]
    generalize (18446744073709551616 : Int) ^ n = P at *
    grind
/-- no borrow is left over where y is no greater -/
theorem borW_end {x y : Nat → Int} (hx : Words x) (hy : Words y) {n : Nat} (h : val y n ≤ val x n) : borW x y n = 0 := by
  have e := dif_val hx hy n
  have h1 := val_bd (difW_words x y) n
  have h2 := borW_01 x y n
  have h3 := pw_pos n
  by_cases h0 : borW x y n = 0
  · exact h0
  · have : borW x y n = 1 := by omega
    rw [this] at e; omega
section
set_option maxHeartbeats 400000 in
theorem nlen_any (a : Option Addr) (n c : Nat) (x : Nat → Int) (w : World) (hn : n < 100000000) (h : Num w a n c x) :
    Calls Tryz.prog 71 #[.slice a n c] w fun e w' => e = .returned (.int .i64 (lenL x n)) ∧ w = w' := by
  have hb := bare_any a n c x w (by omega) h
  have hle := sizeL_le x n
  by_cases h0 : sizeL x n = 0
  · have HL : Hid (lenL x n = 0) := by show _ = _; simp [lenL, h0]
    rw [h0] at hb
    clear h0 h
    go_enter Tryz.func71, Tryz.ntmps71
    go_wp2_with (go_at_call 103; refine hb.mono ?_; rintro e w' ⟨rfl, rfl⟩)
    go_ret
    exact ⟨ret_int HL.out.symm, rfl⟩
  · obtain ⟨j, hj⟩ : ∃ j, sizeL x n = j + 1 := ⟨sizeL x n - 1, by omega⟩
    have HL : Hid (lenL x n = 64 * (j : Int) + Lib.bitLen (x j).toNat) := by show _ = _; simp [lenL, hj]; omega
    obtain ⟨b, off, rfl, hbs, hc⟩ := h.cells (by omega)
    rw [hj] at hb
    have hcj := hc j (by omega)
    have hbx := h.2.2.1 j
    have hbl := bitLen64 (x j).toNat
    have hj' : j + 1 ≤ n := by omega
    clear h0 hc hj hle h
    have hcl := Tryz.bits_Len64 (x j) w hbx.1 hbx.2
    generalize Lib.bitLen (x j).toNat = L at *
    go_enter Tryz.func71, Tryz.ntmps71
    go_wp2_with (first | (go_at_call 103; refine hb.mono ?_; rintro e w' ⟨rfl, rfl⟩) | (go_at_call 58; refine hcl.mono ?_; rintro e w' ⟨rfl, rfl⟩))
    go_ret
    exact ⟨ret_int (by rw [HL.out]; omega), rfl⟩
set_option maxHeartbeats 400000 in
theorem rlen_nil (w : World) : Calls Tryz.prog 23 #[.slice none 0 0] w fun e w' => e = .returned (.int .i64 0) ∧ w = w' := by
  have hs := size_nil w
  go_enter Tryz.func23, Tryz.ntmps23
  go_wp2_with (go_at_call 57; refine hs.mono ?_; rintro e w' ⟨rfl, rfl⟩)
  go_ret
  exact ⟨rfl, rfl⟩
theorem rlen_num (a : Option Addr) (n c : Nat) (x : Nat → Int) (w : World) (hn : n < 100000000) (h : Num w a n c x) :
    Calls Tryz.prog 23 #[.slice a n c] w fun e w' => e = .returned (.int .i64 (lenL x n)) ∧ w = w' := by
  have h' := h
  obtain ⟨h1, h2, h3, h4, h5⟩ := h'
  rcases h5 with ⟨rfl, rfl⟩ | ⟨b, off, rfl, hb, hc⟩
  · obtain rfl : n = 0 := by omega
    exact rlen_nil w
  · exact (len_any b off n c x w hn h3 hc).mono fun e w' hw => ⟨hw.1, hw.2.symm⟩
theorem radd_val (a a' : Option Addr) (n c n' c' : Nat) (x y : Nat → Int) (w : World) (hn : n < 4000000000) (hn' : n' < 4000000000) (h : Num w a n c x) (h' : Num w a' n' c' y) :
    Calls Tryz.prog 21 #[.slice a n c, .slice a' n' c'] w fun e w' => ∃ g k cap z, e = .returned (.slice (some ⟨g, 0, none⟩) k cap) ∧ k ≤ max n n' + 1 ∧ Num w' (some ⟨g, 0, none⟩) k cap z ∧ val z k = val x n + val y n' ∧ Below w.heap.size w w' := by
  refine (radd_any a a' n c n' c' x y w (by omega) (by omega) h h').mono fun e w' ⟨g, k, cap, e1, hk, hN, hB⟩ => ⟨g, k, cap, _, e1, hk, hN, ?_, hB⟩
  have e := sum_val (x := x) (y := y) (max n n' + 1)
  rw [sum_end h.2.2.1 h'.2.2.1 h.2.2.2.1 h'.2.2.2.1 (by omega) (by omega), val_more h.2.2.2.1 _ (by omega), val_more h'.2.2.2.1 _ (by omega), val_more hN.2.2.2.1 _ hk] at e
  omega
end
theorem ncmp_b (a a' : Option Addr) (n c n' c' : Nat) (x y : Nat → Int) (w : World) (hn : n < 4294967296) (hn' : n' < 4294967296) (h : Num w a n c x) (h' : Num w a' n' c' y) :
    Calls Tryz.prog 73 #[.slice a n c, .slice a' n' c'] w fun e w' => e = .returned (.int .i64 (sgn (val x n) (val y n'))) ∧ Below w.heap.size w w' :=
  (ncmp_any a a' n c n' c' x y w hn hn' h h').mono fun e w' ⟨h1, m, hm⟩ => ⟨h1, hm ▸ below_drewN (Below.refl _ _) m⟩
section
set_option maxHeartbeats 1000000 in
theorem mulAdd_any (a n z C : Int) (w : World) (ha : 0 ≤ a ∧ a ≤ 18446744073709551615) (hn : 0 ≤ n ∧ n ≤ 18446744073709551615) (hz : 0 ≤ z ∧ z ≤ 18446744073709551615) (hC : 0 ≤ C ∧ C ≤ 18446744073709551615) :
    Calls Tryz.prog 162 #[.int .u64 a, .int .u64 n, .int .u64 z, .int .u64 C] w fun e w' => ∃ l h, e = .returned (.tuple #[.int .u64 l, .int .u64 h]) ∧ l + h * 18446744073709551616 = a * n + z + C ∧ (0 ≤ l ∧ l ≤ 18446744073709551615) ∧ (0 ≤ h ∧ h ≤ 18446744073709551615) ∧ w = w' := by
  have hms := mul_step a n z C ha hn hz hC
  have hmul := mul64 a n ha hn w
  have hL0 : 0 ≤ a * n % 18446744073709551616 := Int.emod_nonneg _ (by decide)
  have hA1 := fun w => add64z (a * n % 18446744073709551616) z hL0 hz.1 w
  have hs0 : 0 ≤ (a * n % 18446744073709551616 + z) % 18446744073709551616 := Int.emod_nonneg _ (by decide)
  have hA2 := fun w => add64z ((a * n % 18446744073709551616 + z) % 18446744073709551616) C hs0 hC.1 w
  have ht0 : 0 ≤ ((a * n % 18446744073709551616 + z) % 18446744073709551616 + C) % 18446744073709551616 ∧ ((a * n % 18446744073709551616 + z) % 18446744073709551616 + C) % 18446744073709551616 ≤ 18446744073709551615 := by omega
  generalize ((a * n % 18446744073709551616 + z) % 18446744073709551616 + C) % 18446744073709551616 = t2 at *
  generalize ((a * n % 18446744073709551616 + z) % 18446744073709551616 + C) / 18446744073709551616 = f2 at *
  generalize (a * n % 18446744073709551616 + z) % 18446744073709551616 = t1 at *
  generalize (a * n % 18446744073709551616 + z) / 18446744073709551616 = f1 at *
  generalize a * n % 18446744073709551616 = lo at *
  generalize a * n / 18446744073709551616 = hi at *
  have HMS : Hid (t2 + (hi + f1 + f2) * 18446744073709551616 = a * n + z + C) := hms.1
  have hb1 : 0 ≤ hi + f1 := hms.2.1
  have hb2 : hi + f1 ≤ 18446744073709551615 := hms.2.2.1
  have hb3 : 0 ≤ hi + f1 + f2 := hms.2.2.2.1
  have hb4 : hi + f1 + f2 ≤ 18446744073709551615 := hms.2.2.2.2
  clear hms
  go_enter Tryz.func162, Tryz.ntmps162
  go_wp2_with (go_at_call 59; refine hmul.mono ?_; rintro e w' ⟨rfl, rfl⟩)
  go_ret2
  exact ⟨t2, hi + f1 + f2, rfl, HMS.out, ht0, ⟨hb3, hb4⟩, rfl⟩

set_option maxHeartbeats 1000000 in
theorem addProduct_any (g N off m c k c' : Nat) (a' : Option Addr) (x y : Nat → Int) (n : Int) (w : World) (hm : off + m ≤ N) (hN : N < 4294967296) (hk : k ≤ m) (hx : Words x) (hn : 0 ≤ n ∧ n ≤ 18446744073709551615) (h : Own g N x w) (h' : Num w a' k c' y) (hA : Apart a' g) :
    Calls Tryz.prog 133 #[.slice (some ⟨g, off, none⟩) m c, .slice a' k c', .int .u64 n] w fun e w' => ∃ C z, e = .returned (.int .u64 C) ∧ (0 ≤ C ∧ C ≤ 18446744073709551615) ∧ Own g N z w' ∧ Words z ∧ val z N + C * 18446744073709551616 ^ (off + k) = val x N + n * val y k * 18446744073709551616 ^ off ∧ (∀ i, off + k ≤ i → z i = x i) ∧ Upd g w w' := by
  have hy := h'.2.2.1
  go_enter Tryz.func133, Tryz.ntmps133
  go_wp2
  go_loopw [7, 8, 9, 12, 17] (fun cv u8 u9 i u17 wr => ∃ (j : Nat) (C : Int) (z : Nat → Int), j ≤ k ∧ i = .int .i64 j ∧ cv = .int .u64 C ∧ (0 ≤ C ∧ C ≤ 18446744073709551615) ∧ Own g N z wr ∧ Words z ∧ Hid (val z N + C * 18446744073709551616 ^ (off + j) = val x N + n * val y j * 18446744073709551616 ^ off) ∧ (∀ i, off + j ≤ i → z i = x i) ∧ Upd g w wr) (fun _ _ _ i _ _ => k - (intOf i).toNat)
  case atStart => exact ⟨0, 0, x, Nat.zero_le _, rfl, rfl, by decide, h, hx, by show _ = _; simp [val], fun _ _ => rfl, Upd.refl _ _⟩
  case round =>
    obtain ⟨j, C, z, hj, rfl, rfl, hCb, hO, hzw, hv, hzx, hU⟩ := hrel
    by_cases hlt : j < k
    · have hji : (j : Int) < k := by omega
      have hjm : (j : Int) < m := by omega
      obtain ⟨b, off', rfl, hb, hc⟩ := (hU.num' hA h').cells (by omega)
      have hcj := hc j hlt
      have hco := hO.cell (off + j) (by omega)
      have hfo := hO.frozen (off + j)
      have hma := fun w => mulAdd_any (y j) n (z (off + j)) C w (hy j) hn (hzw (off + j)) hCb
      have HO : Hid (Own g N z wr) := hO
      have HU : Hid (Upd g w wr) := hU
      have HZW : Hid (Words z) := hzw
      have HZX : Hid (∀ i, off + j ≤ i → z i = x i) := hzx
      clear hO hU hc h h' hA hx hy hzw hzx
      go_wp2_with (go_at_call 162; refine (hma _).mono ?_; rintro e w1 ⟨l, hi, rfl, hlh, hlb, hhb, rfl⟩)
      go_roundw
      case rel =>
        refine ⟨j + 1, hi, fun i => if i = off + j then l else z i, by omega, by go_num, rfl, hhb, HO.out.set (off + j) l, upd_words HZW.out hlb, ?_, ?_, HU.out.set (off + j) _⟩
        · show _ = _
          rw [val_set z (off + j) l N (by omega)]
          exact mul_inner _ _ _ _ _ _ _ _ _ off j hv.out (by rw [hlh, Int.mul_comm (y j) n])
        · intro i hi2
          exact (if_neg (show ¬ i = off + j by omega)).trans (HZX.out i (by omega))
      case measure => simp [intOf]; omega
    · obtain rfl : j = k := by omega
      have HO : Hid (Own g N z wr) := hO
      have HU : Hid (Upd g w wr) := hU
      have HZW : Hid (Words z) := hzw
      have HZX : Hid (∀ i, off + j ≤ i → z i = x i) := hzx
      clear hO hU h h' hA hx hy hzw hzx
      go_wp2
      go_ret
      exact ⟨C, z, rfl, hCb, HO.out, HZW.out, hv.out, HZX.out, HU.out⟩

theorem apart_of {w : World} {a : Option Addr} {n c : Nat} {x : Nat → Int} (h : Num w a n c x) : Apart a w.heap.size := by
  intro p hp
  rcases h.2.2.2.2 with ⟨h, _⟩ | ⟨b, off, h, hb, _⟩
  · rw [h] at hp; cases hp
  · rw [h] at hp; cases hp; exact Nat.ne_of_lt hb
theorem val_zero : ∀ m, val (fun _ => 0) m = 0 := by intro m; induction m with | zero => rfl | succ m ih => simp only [val]; rw [ih]; simp

set_option maxHeartbeats 2000000 in
theorem nmul_any (a a' : Option Addr) (n c n' c' : Nat) (x y : Nat → Int) (w : World) (hn : n < 4000000000) (hn' : n' < 4000000000) (h : Num w a n c x) (h' : Num w a' n' c' y) (hs : sizeL x n + sizeL y n' ≤ 2000) :
    Calls Tryz.prog 97 #[.slice a n c, .slice a' n' c'] w fun e w' => ∃ g k cap z, e = .returned (.tuple #[.slice (some ⟨g, 0, none⟩) k cap, .int .i64 0]) ∧ k ≤ sizeL x n + sizeL y n' ∧ Num w' (some ⟨g, 0, none⟩) k cap z ∧ val z k = val x n * val y n' ∧ sizeL z k = k ∧ Below w.heap.size w w' := by
  have hb := bare_any a n c x w (by omega) h
  have hb' := bare_any a' n' c' y w (by omega) h'
  rw [← val_bare n, ← val_bare n']
  have hx := h.2.2.1
  have hy := h'.2.2.1
  have hle := sizeL_le x n
  have hle' := sizeL_le y n'
  have hN := h.bare
  have hN' := h'.bare
  generalize sizeL x n = s at *
  generalize sizeL y n' = s' at *
  clear h h'
  obtain ⟨N, hNs⟩ : ∃ N, s + s' = N := ⟨_, rfl⟩
  have hNi : (s : Int) + s' = N := by omega
  have hmk := fun w => make_any ((s : Int) + s') N hNi (by omega) w
  have hN2 : (s : Int) + s' ≤ 2000 := by omega
  have HNS : Hid (s + s' = N) := hNs
  have hA := apart_of hN
  have hA' := apart_of hN'
  have hO := Own.new w (fun _ => 0) N
  have hBW := below1 w (.cells (arrOf (fun _ => 0) N) 22)
  have hnx := hN.next hBW
  have hny := hN'.next hBW
  have hap := fun wr z off hO hzw hU (hoff : off + s ≤ N) n hn => addProduct_any w.heap.size N off (N - off) (N - off) s c a z x n wr (by omega) (by omega) (by omega) hzw hn hO (Upd.num' (w := w.alloc (.cells (arrOf (fun _ => 0) N) 22)) hU hA hnx) hA
  have HBW : Hid (Below w.heap.size w (w.alloc (.cells (arrOf (fun _ => 0) N) 22))) := hBW
  clear hBW hN hN' hNi hNs
  go_enter Tryz.func97, Tryz.ntmps97
  go_wp2_with (first | (go_at_call_of 103 (Value.slice a n c); refine hb.mono ?_; rintro e w' ⟨rfl, rfl⟩) | (go_at_call_of 103 (Value.slice a' n' c'); refine hb'.mono ?_; rintro e w' ⟨rfl, rfl⟩))
  generalize w.alloc (.cells (arrOf (fun _ => 0) N) 22) = wA at *
  go_loopw [9, 10, 29] (fun u9 u10 i wr => ∃ (j : Nat) (z : Nat → Int), j ≤ s' ∧ i = .int .i64 j ∧ Own w.heap.size N z wr ∧ Words z ∧ (∀ q, s + j ≤ q → z q = 0) ∧ Hid (val z N = val x s * val y j) ∧ Upd w.heap.size wA wr) (fun _ _ i _ => s' - (intOf i).toNat)
  case atStart => exact ⟨0, fun _ => 0, Nat.zero_le _, rfl, hO, fun _ => (by decide : (0 : Int) ≤ 0 ∧ (0 : Int) ≤ 18446744073709551615), fun _ _ => rfl, by show _ = _; rw [val_zero]; simp [val], Upd.refl _ _⟩
  case round =>
    clear hO
    obtain ⟨j, z, hj, rfl, hO, hzw, hz0, hv, hU⟩ := hrel
    by_cases hlt : j < s'
    · have hji : (j : Int) < s' := by omega
      obtain ⟨b, off', rfl, hbb, hc⟩ := (hU.num' hA' hny).cells (by omega)
      have hcj := hc j hlt
      have hap1 := hap wr z j hO hzw hU (by have := HNS.out; omega) (y j) (hy j)
      have hjN : (j : Int) ≤ N := by have := HNS.out; omega
      have hjs : (j : Int) + s < N := by have := HNS.out; omega
      have e1 : ((j : Int) + s).toNat = j + s := by omega
      have HU : Hid (Upd w.heap.size wA wr) := hU
      have HZ0 : Hid (∀ q, s + j ≤ q → z q = 0) := hz0
      clear hO hU hc hzw hz0 hap hx hy hA hA' hnx hny
      go_wp2_with (go_at_call 133; refine hap1.mono ?_; rintro e w1 ⟨C, z1, rfl, hCb, hO1, hw1, hv1, hzx1, hU1⟩; have hc1 := hO1.cell (j + s) (by have := HNS.out; omega); have hf1 := hO1.frozen (j + s))
      go_roundw
      case rel =>
        have e2 : z1 (j + s) = 0 := by rw [hzx1 (j + s) (Nat.le_refl _)]; exact HZ0.out _ (by omega)
        refine ⟨j + 1, fun i => if i = j + s then C else z1 i, by omega, by go_num, hO1.set (j + s) C, upd_words hw1 hCb, ?_, ?_, (HU.out.trans hU1).set (j + s) _⟩
        · intro q hq
          exact (if_neg (show ¬ q = j + s by omega)).trans ((hzx1 q (by omega)).trans (HZ0.out q (by omega)))
        · show _ = _
          rw [val_set z1 (j + s) C N (by have := HNS.out; omega), e2, Int.sub_zero, hv1, hv.out]
          show _ = val x s * (val y j + y j * 18446744073709551616 ^ j)
          generalize (18446744073709551616 : Int) ^ j = P
          grind
      case measure => simp [intOf]; omega
    · obtain rfl : j = s' := by omega
      have hN2' := hO.num hzw 0 N N (by omega) (Nat.le_refl _) (by unfold maxLen; have := HNS.out; omega)
      have hbr := bare_any (some ⟨w.heap.size, 0, none⟩) N N (segW z 0 N) wr (by have := HNS.out; omega) hN2'
      have HN2 : Hid (Num wr (some ⟨w.heap.size, 0, none⟩) (sizeL (segW z 0 N) N) N (segW z 0 N)) := hN2'.bare
      have HV2 : Hid (val (segW z 0 N) (sizeL (segW z 0 N) N) = val x s * val y j) := by
        show _ = _
        rw [val_bare, val_congr (x := segW z 0 N) (y := z) N fun i hi => by rw [segW_lt _ 0 N i hi, Nat.zero_add], hv.out]
      have HS2 : Hid (sizeL (segW z 0 N) (sizeL (segW z 0 N) N) = sizeL (segW z 0 N) N) := sizeL_sizeL _ _
      have HLE : Hid (sizeL (segW z 0 N) N ≤ N) := sizeL_le _ _
      generalize segW z 0 N = z2 at *
      generalize sizeL z2 N = k at *
      have HB2 : Hid (Below w.heap.size w wr) := HBW.out.trans (hU.below (Nat.le_refl _))
      clear hO hU hN2' hx hy hzw hz0 hap hA hA' hnx hny
      go_wp2_with (go_at_call 103; refine hbr.mono ?_; rintro e w3 ⟨rfl, rfl⟩)
      go_ret2
      exact ⟨_, k, N, z2, rfl, by rw [HNS.out]; exact HLE.out, HN2.out, HV2.out, HS2.out, HB2.out⟩
end
end Go.Proofs.YtgknbdehlmlipaaGreatDoor

set_option maxRecDepth 100000
set_option maxRecDepth 20000
namespace Go.Proofs.YtgknbdehlmlipaaGreatDoor
open Go.ChangeShapes Go.WideShapes Go.ChangeAt Go.RowKit

theorem Tryz.cells22 : Tryz.prog.cellsOf 22 = 1 := by kernel_rfl
section
variable {H : Type} {enc : TypeId × Value → H} {W : World} {r : Reach} {base b : Nat} {sp : Nat → Bool} {held : Bool} {t : TypeId} {n : Nat} {v : Value} {d : DataW H} {p : List MemPlace}
theorem open_words (ht : Tryz.prog.underlying t = some (.array n 22)) (hc : Tryz.prog.cellsOf t = n) (hok : Value.okWide Tryz.prog W r base t v) (h : DataW.Trod enc Tryz.prog W b sp held t v d p) :
    ∃ x, Words x ∧ v = .agg (arrOf x n) ∧ p = [] := by
  have ho : ∃ cs, v = .agg cs ∧ cs.size = n := by
    simp only [Value.okWide, ht] at hok
    obtain ⟨cs, h1, h2, _⟩ := hok
    exact ⟨cs, h1, by rw [h2, hc]⟩
  obtain ⟨cs, rfl, hcs⟩ := ho
  obtain ⟨fuel, hf⟩ := h
  obtain ⟨xs, m, rfl, hx, hl, hlen, hi⟩ := DataW.trod_array ht hf
  have hcell : ∀ i, i < n → ∃ z, cs[i]? = some (.int .u64 z) ∧ xs[i]? = some (.lit (.int .u64 z), []) ∧ (0 ≤ z ∧ z ≤ 18446744073709551615) := by
    intro i hin
    have h1 := hi i hin
    rw [Tryz.cells22] at h1
    have hix : i < xs.length := by omega
    rw [List.getElem?_eq_getElem hix] at h1
    obtain ⟨z, hz, hxz, hw⟩ := DataW.trod_int Tryz.underlying22 h1
    refine ⟨z, ?_, ?_, bounds_u64 hw⟩
    · have hic : i < cs.size := by omega
      have : ((Value.agg cs).cells.toList.drop (i * 1)).take 1 = [cs[i]] := by
        simp [Value.cells, List.take_one, List.head?_drop, hic]
      rw [this] at hz
      rw [Array.getElem?_eq_getElem hic]
      simpa using hz
    · rw [List.getElem?_eq_getElem hix, hxz]
  refine ⟨fun i => match cs[i]? with | some (.int .u64 z) => (if i < n then z else 0) | _ => 0, ?_, ?_, ?_⟩
  · intro i
    by_cases hin : i < n
    · obtain ⟨z, h1, _, h3⟩ := hcell i hin
      simp only [h1, if_pos hin]; exact h3
    · have : cs[i]? = none := by simp; omega
      simp only [this]; omega
  · congr 1
    refine arrOf_of cs n _ hcs fun i hin => ?_
    obtain ⟨z, h1, _, _⟩ := hcell i hin
    simp only [h1, if_pos hin]
  · have : p = xs.flatMap (·.2) := by
      have := congrArg Prod.snd hx; simpa using this
    rw [this]
    simp only [List.flatMap_eq_nil_iff]
    intro y hy
    obtain ⟨i, hin, rfl⟩ := List.getElem_of_mem hy
    obtain ⟨z, _, h2, _⟩ := hcell i (by omega)
    rw [List.getElem?_eq_getElem hin] at h2
    rw [Option.some.inj h2]
end
end Go.Proofs.YtgknbdehlmlipaaGreatDoor
