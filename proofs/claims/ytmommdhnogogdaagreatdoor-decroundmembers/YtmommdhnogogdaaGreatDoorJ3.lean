/-
  Texts that the proof leans on, joined: Lmul, Tim, Wd, Kp, Nb, Lm4, Up, Dvm, Dvn.
-/
import Derived.Test.YtmommdhnogogdaaGreatDoorJ1
import Derived.Test.YtmommdhnogogdaaGreatDoorJ2
import Derived.BigQuiet
import Derived.WalkKit
import Derived.Deep.Cut
import Derived.Deep.CutRange
import Derived.Laws.IdiomCopy
import Derived.Laws.CopyRow
import Derived.Deep.WholeRow
import Derived.BigRegion
import Derived.Lib.BitFns
set_option linter.unusedVariables false
set_option linter.unusedSimpArgs false
set_option maxRecDepth 20000
set_option linter.unusedSectionVars false
namespace Go.Proofs.YtmommdhnogogdaaGreatDoor
open Go.RowKit
attribute [local go_sem] setCell_drewN alloc_drewN

theorem mul64 (x y : Int) (hx : 0 ≤ x ∧ x ≤ 18446744073709551615) (hy : 0 ≤ y ∧ y ≤ 18446744073709551615) (w : World) :
    Calls Tryz.prog 38 #[.int .u64 x, .int .u64 y] w fun e w' => e = .returned (.tuple #[.int .u64 (x * y / 18446744073709551616), .int .u64 (x * y % 18446744073709551616)]) ∧ w' = w := by
  obtain ⟨a, rfl⟩ := Int.eq_ofNat_of_zero_le hx.1
  obtain ⟨b, rfl⟩ := Int.eq_ofNat_of_zero_le hy.1
  have h := Tryz.bits_Mul64 a b (by omega) (by omega) w
  rw [Int.natCast_ediv, Int.natCast_emod, Int.natCast_mul] at h
  exact h
theorem add64z (x y : Int) (hx : 0 ≤ x) (hy : 0 ≤ y) (w : World) : (callFunc 39 #[.int .u64 x, .int .u64 y, .int .u64 0]).run Tryz.prog w =
    .ok (.value (.tuple #[.int .u64 ((x + y) % 18446744073709551616), .int .u64 ((x + y) / 18446744073709551616)])) w := by
  simpa using add64 x y 0 hx hy (Int.le_refl 0) (by decide) w

end Go.Proofs.YtmommdhnogogdaaGreatDoor

namespace Go.Proofs.YtmommdhnogogdaaGreatDoor
open Go.RowKit
attribute [local go_sem] setCell_drewN alloc_drewN

theorem upd_get {ss : Array Value} {z : Nat → Int} {p : Nat} {v : Int} (h : ∀ j h, ss[j]'h = Value.int .u64 (z j)) (j : Nat) (hj : j < (ss.setIfInBounds p (.int .u64 v)).size) : (ss.setIfInBounds p (.int .u64 v))[j]'hj = Value.int .u64 (if j = p then v else z j) := by
  have h' : j < ss.size := by simpa using hj
  rw [Array.getElem_setIfInBounds h']
  by_cases e : p = j
  · subst e; simp
  · rw [if_neg e, h j h', if_neg (Ne.symm e)]
theorem upd_words {z : Nat → Int} {p : Nat} {v : Int} (hz : Words z) (hv : 0 ≤ v ∧ v ≤ 18446744073709551615) : Words (fun j => if j = p then v else z j) := fun i => by
  show 0 ≤ (if i = p then v else z i) ∧ (if i = p then v else z i) ≤ _
  split
  · exact hv
  · exact hz i
/-- the end of a round of the outer loop -/
theorem mul_outer (V Vi a vb c : Int) (i k : Nat) (h : V + c * 18446744073709551616 ^ (i + k) = Vi * vb + a * vb * 18446744073709551616 ^ i) : V + (c - 0) * 18446744073709551616 ^ (i + k) = (Vi + a * 18446744073709551616 ^ i) * vb := by
  rw [Int.sub_zero, h]; generalize (18446744073709551616 : Int) ^ i = p; grind

set_option maxHeartbeats 2000000 in
theorem times_raw (b off n c b' off' n' c' : Nat) (x y : Nat → Int) (w : World) (hn : n < 1000000) (hn' : n' < 1000000) (h : Num w (some ⟨b, off, none⟩) n c x) (h' : Num w (some ⟨b', off', none⟩) n' c' y) :
    Calls Tryz.prog 15 #[.slice (some ⟨b, off, none⟩) n c, .slice (some ⟨b', off', none⟩) n' c'] w fun e w' => ∃ g k cap z, e = .returned (.slice (some ⟨g, 0, none⟩) k cap) ∧ k ≤ n + n' + 1 ∧ Num w' (some ⟨g, 0, none⟩) k cap z ∧ val z (n + n' + 1) = val x n * val y n' ∧ Below w.heap.size w w' := by
  have hx := h.2.2.1
  have hy := h'.2.2.1
  have hc : b < w.heap.size ∧ ∀ i, i < n → w.cell? ⟨b, off + i, none⟩ = some (.int .u64 (x i)) := by
    rcases h.2.2.2.2 with ⟨h, _⟩ | ⟨b', off', h, hbs, hc⟩
    · cases h
    · cases h; exact ⟨hbs, hc⟩
  have hc' : b' < w.heap.size ∧ ∀ i, i < n' → w.cell? ⟨b', off' + i, none⟩ = some (.int .u64 (y i)) := by
    rcases h'.2.2.2.2 with ⟨h, _⟩ | ⟨b', off', h, hbs, hc⟩
    · cases h
    · cases h; exact ⟨hbs, hc⟩
  have hcap := h.1
  have hcap' := h'.1
  obtain ⟨M, hM⟩ : ∃ M, n + n' + 1 = M := ⟨_, rfl⟩
  have hMi : (n : Int) + n' + 1 = (M : Int) := by omega
  have hmk := fun w => make_any ((n : Int) + n' + 1) M hMi (by omega) w
  have hcw : ∀ (ss : Array Value) i, i < n → (w.alloc (.cells ss 22)).cell? ⟨b, off + i, none⟩ = some (.int .u64 (x i)) := fun ss i hi => ((below1 w _).cell (p := ⟨b, off + i, none⟩) hc.1).trans (hc.2 i hi)
  have hcw' : ∀ (ss : Array Value) i, i < n' → (w.alloc (.cells ss 22)).cell? ⟨b', off' + i, none⟩ = some (.int .u64 (y i)) := fun ss i hi => ((below1 w _).cell (p := ⟨b', off' + i, none⟩) hc'.1).trans (hc'.2 i hi)
  have HM : Hid (n + n' + 1 = M) := hM
  have HZ : Hid ((arrOf (fun _ => 0) M).size = M ∧ ∀ j h, (arrOf (fun _ => 0) M)[j]'h = Value.int .u64 0) := ⟨arrOf_size _ _, fun j h => arrOf_get _ _ _ _⟩
  clear h h' hMi hc hc' hM
  generalize arrOf (fun _ => 0) M = zz at *
  go_enter Tryz.func15, Tryz.ntmps15
  go_wp2
  go_loopw [22] (fun i wr => ∃ (k m : Nat) (ss : Array Value) (z : Nat → Int), k ≤ n ∧ i = .int .i64 k ∧ ss.size = M ∧ (∀ j h, ss[j]'h = Value.int .u64 (z j)) ∧ Words z ∧ (∀ j, k + n' ≤ j → z j = 0) ∧ val z M = val x k * val y n' ∧ wr = (w.alloc (.cells ss 22)).drewN m) (fun i _ => n - (intOf i).toNat)
  case atStart =>
    refine ⟨0, 0, zz, fun _ => 0, Nat.zero_le _, rfl, HZ.out.1, HZ.out.2, fun _ => (by decide : (0 : Int) ≤ 0 ∧ (0 : Int) ≤ 18446744073709551615), fun _ _ => rfl, ?_, rfl⟩
    have : ∀ m, val (fun _ => 0) m = 0 := by intro m; induction m with | zero => rfl | succ m ih => simp only [val]; rw [ih]; simp
    rw [this]; simp [val]
  case round =>
    obtain ⟨k, m, ss, z, hk, rfl, hsz, hss, hzw, hz0, hv, rfl⟩ := hrel
    by_cases h8 : k < n
    · have h8i : (k : Int) < n := by omega
      have bx := hx k
      have hcx := fun ss => hcw ss k h8
      have h0p : (∀ j, k + n' ≤ j → z j = 0) := hz0
      go_wp2
      go_loopw [7, 27] (fun cc kk wr => ∃ (q m : Nat) (ss : Array Value) (z : Nat → Int) (C : Int), q ≤ n' ∧ kk = .int .i64 q ∧ cc = .int .u64 C ∧ (0 ≤ C ∧ C ≤ 18446744073709551615) ∧ ss.size = M ∧ (∀ j h, ss[j]'h = Value.int .u64 (z j)) ∧ Words z ∧ (∀ j, k + n' ≤ j → z j = 0) ∧ Hid (val z M + C * 18446744073709551616 ^ (k + q) = val x k * val y n' + x k * val y q * 18446744073709551616 ^ k) ∧ wr = (w.alloc (.cells ss 22)).drewN m) (fun _ kk _ => n' - (intOf kk).toNat)
      case atStart => exact ⟨0, m, ss, z, 0, Nat.zero_le _, rfl, rfl, by decide, hsz, hss, hzw, hz0, by show _ = _; rw [hv]; simp [val], rfl⟩
      case round =>
        clear hss hsz hzw hz0 hv h0p
        obtain ⟨q, m2, s2, z2, C, hq, rfl, rfl, hCb, hsz, hss, hzw, hz0, hv, rfl⟩ := hrel
        by_cases hqn : q < n'
        · have hqi : (q : Int) < n' := by omega
          have b_y := hy q
          have hcy := hcw' s2 q hqn
          have hcx2 := hcx s2
          have hp : k + q < s2.size := by have := HM.out; omega
          have hpi : (k : Int) + q < M := by have := HM.out; omega
          have e1 : ((k : Int) + q).toNat = k + q := by omega
          have hsp : s2[k + q]? = some (.int .u64 (z2 (k + q))) := by rw [Array.getElem?_eq_getElem hp, hss _ hp]
          have hsp' : ∀ h, s2[k + q]'h = .int .u64 (z2 (k + q)) := fun h => hss _ h
          have hzp := hzw (k + q)
          have hms := mul_step (x k) (y q) (z2 (k + q)) C bx b_y hzp hCb
          have hmul := mul64 (x k) (y q) bx b_y
          have hL0 : 0 ≤ x k * y q % 18446744073709551616 := Int.emod_nonneg _ (by decide)
          have hH0 : 0 ≤ x k * y q / 18446744073709551616 := Int.ediv_nonneg (Int.mul_nonneg bx.1 b_y.1) (by decide)
          have hA1 := fun w => add64z (x k * y q % 18446744073709551616) (z2 (k + q)) hL0 hzp.1 w
          have hs0 : 0 ≤ (x k * y q % 18446744073709551616 + z2 (k + q)) % 18446744073709551616 := Int.emod_nonneg _ (by decide)
          have hd0 : 0 ≤ (x k * y q % 18446744073709551616 + z2 (k + q)) / 18446744073709551616 := Int.ediv_nonneg (by omega) (by decide)
          have hA2 := fun w => add64z ((x k * y q % 18446744073709551616 + z2 (k + q)) % 18446744073709551616) C hs0 hCb.1 w
          have ht0 : 0 ≤ ((x k * y q % 18446744073709551616 + z2 (k + q)) % 18446744073709551616 + C) % 18446744073709551616 ∧ ((x k * y q % 18446744073709551616 + z2 (k + q)) % 18446744073709551616 + C) % 18446744073709551616 ≤ 18446744073709551615 := by omega
          have hf0 : 0 ≤ ((x k * y q % 18446744073709551616 + z2 (k + q)) % 18446744073709551616 + C) / 18446744073709551616 := Int.ediv_nonneg (by omega) (by decide)
          generalize ((x k * y q % 18446744073709551616 + z2 (k + q)) % 18446744073709551616 + C) % 18446744073709551616 = t2 at *
          generalize ((x k * y q % 18446744073709551616 + z2 (k + q)) % 18446744073709551616 + C) / 18446744073709551616 = f2 at *
          generalize (x k * y q % 18446744073709551616 + z2 (k + q)) % 18446744073709551616 = t1 at *
          generalize (x k * y q % 18446744073709551616 + z2 (k + q)) / 18446744073709551616 = f1 at *
          generalize x k * y q % 18446744073709551616 = lo at *
          generalize x k * y q / 18446744073709551616 = hi at *
          have HMS : Hid (t2 + (hi + f1 + f2) * 18446744073709551616 = x k * y q + z2 (k + q) + C) := hms.1
          have hb1 : 0 ≤ hi + f1 := hms.2.1
          have hb2 : hi + f1 ≤ 18446744073709551615 := hms.2.2.1
          have hb3 : 0 ≤ hi + f1 + f2 := hms.2.2.2.1
          have hb4 : hi + f1 + f2 ≤ 18446744073709551615 := hms.2.2.2.2
          have HSS : Hid (∀ j h, s2[j]'h = Value.int .u64 (z2 j)) := hss
          have HZW : Hid (Words z2) := hzw
          have HZ0 : Hid (∀ j, k + n' ≤ j → z2 j = 0) := hz0
          have HR : Hid (val (fun j => if j = k + q then t2 else z2 j) M + (hi + f1 + f2) * 18446744073709551616 ^ (k + (q + 1)) = val x k * val y n' + x k * val y (q + 1) * 18446744073709551616 ^ k) := by
            show _ = _
            rw [val_set z2 (k + q) t2 M (by have := HM.out; omega)]
            exact mul_inner _ _ _ _ _ _ _ _ _ k q hv.out hms.1
          clear hms hss hzw hz0 hx hy hcw hcw' hmk hv
          go_wp2
          go_quiet ((go_at_call 38; exact (hmul _).mono fun _ _ h => ⟨h.1, _, h.2⟩))
          go_wp2
          go_roundw
          case rel => exact ⟨q + 1, m2 + nq, s2.setIfInBounds (k + q) (.int .u64 t2), fun j => if j = k + q then t2 else z2 j, hi + f1 + f2, by omega, by go_num, rfl, ⟨hb3, hb4⟩, by simp [hsz], upd_get HSS.out, upd_words HZW.out ht0, fun j hj => (if_neg (show ¬ j = k + q by omega)).trans (HZ0.out j hj), HR, by simp [go_sem]⟩
          case measure => simp [intOf]; omega
        · obtain rfl : q = n' := by omega
          have hp : k + q < s2.size := by have := HM.out; omega
          have hpi : (k : Int) + q < M := by have := HM.out; omega
          have e1 : ((k : Int) + q).toNat = k + q := by omega
          have hsp : s2[k + q]? = some (.int .u64 0) := by rw [Array.getElem?_eq_getElem hp, hss _ hp, hz0 _ (Nat.le_refl _)]
          have HR : Hid (val (fun j => if j = k + q then C else z2 j) M = val x (k + 1) * val y q) := by
            show _ = _
            rw [val_set z2 (k + q) C M (by have := HM.out; omega), hz0 _ (Nat.le_refl _)]
            exact mul_outer _ _ _ _ _ k q hv.out
          have HSS : Hid (∀ j h, s2[j]'h = Value.int .u64 (z2 j)) := hss
          have HZW : Hid (Words z2) := hzw
          have HZ0 : Hid (∀ j, k + q ≤ j → z2 j = 0) := hz0
          clear hss hzw hz0 hx hy hcw hcw' hmk hv hcx
          go_wp2
          go_roundw
          case rel => exact ⟨k + 1, m2, s2.setIfInBounds (k + q) (.int .u64 C), fun j => if j = k + q then C else z2 j, by omega, by go_num, by simp [hsz], upd_get HSS.out, upd_words HZW.out hCb, fun j hj => (if_neg (show ¬ j = k + q by omega)).trans (HZ0.out j (by omega)), HR.out, by simp [go_sem]⟩
          case measure => simp [intOf]; omega
    · obtain rfl : k = n := by omega
      have hT := trim_any _ _ _ _ _ (by have := HM.out; omega) ((num_of_block (w := w) (by have := HM.out; omega) hzw (fun i hi => hz0 i (by have := HM.out; omega)) hsz hss).drewN m)
      have hle := sizeL_le z M
      clear hss hmk hx hy hcw hcw' hzw hz0
      go_wp2_with (go_at_call 36; refine hT.mono ?_; rintro e w1 ⟨g, cap, rfl, hN, hB⟩)
      go_ret
      exact ⟨g, _, cap, z, rfl, Nat.le_trans hle (Nat.le_of_eq HM.out.symm), hN, by rw [HM.out]; exact hv, (below_drewN (below1 w _) m).trans (hB.mono (by simp))⟩
end Go.Proofs.YtmommdhnogogdaaGreatDoor

namespace Go.Proofs.YtmommdhnogogdaaGreatDoor
open Go.RowKit

/-- a world of the class p -/
structure Wd (p : World → Prop) where
  w : World
  h : p w

theorem calls_wd {P : Program} {p : World → Prop} {f : FuncId} {args : Array Value} {v : Value} (t : Wd p) (hp : ∀ w w', p w → Below w.heap.size w w' → p w')
    (h : Calls P f args t.w fun e w' => e = .returned v ∧ Below t.w.heap.size t.w w') : Calls P f args t.w fun e w'' => e = .returned v ∧ ∃ t' : Wd p, w'' = t'.w :=
  h.mono fun _ w' ⟨h1, h2⟩ => ⟨h1, ⟨w', hp _ _ t.h h2⟩, rfl⟩
end Go.Proofs.YtmommdhnogogdaaGreatDoor

namespace Go.Proofs.YtmommdhnogogdaaGreatDoor
open Go.RowKit

/-- the words of x lie in block g -/
def HasN (g n : Nat) (x : Nat → Int) (w : World) : Prop := g < w.heap.size ∧ ∀ i, i < n → w.cell? ⟨g, i, none⟩ = some (.int .u64 (x i))
theorem HasN.next {g n : Nat} {x : Nat → Int} {w w' : World} (h : HasN g n x w) (hb : Below w.heap.size w w') : HasN g n x w' :=
  ⟨Nat.lt_of_lt_of_le h.1 hb.size, fun i hi => (hb.cell (p := ⟨g, i, none⟩) h.1).trans (h.2 i hi)⟩
theorem HasN.of_alloc (w : World) (cs : Array Value) (t : TypeId) (n : Nat) (x : Nat → Int) (h : ∀ i, i < n → cs[i]? = some (.int .u64 (x i))) : HasN w.heap.size n x (w.alloc (.cells cs t)) :=
  ⟨by simp, fun i hi => by rw [World.cell?_alloc_new]; exact h i hi⟩
theorem HasN.num {g n c m : Nat} {x : Nat → Int} {w : World} (h : HasN g m x w) (hx : Words x) (hn : n ≤ m) (hc : n ≤ c) (hcm : c ≤ maxLen) : Num w (some ⟨g, 0, none⟩) n c (lowW x n) :=
  ⟨hc, hcm, lowW_words hx n, fun i hi => by unfold lowW; rw [if_neg (by omega)], Or.inr ⟨g, 0, rfl, h.1, fun i hi => by rw [Nat.zero_add, h.2 i (by omega)]; unfold lowW; rw [if_pos hi]⟩⟩

/-- all the blocks of the list stand; nothing elder than the call has turned -/
def KP (w0 : World) (l : List (Nat × Nat × (Nat → Int))) (w : World) : Prop := Below w0.heap.size w0 w ∧ ∀ e ∈ l, HasN e.1 e.2.1 e.2.2 w
theorem KP.next {w0 : World} {l : List (Nat × Nat × (Nat → Int))} {w w' : World} (h : KP w0 l w) (hb : Below w.heap.size w w') : KP w0 l w' := ⟨h.1.trans (hb.mono h.1.size), fun e he => (h.2 e he).next hb⟩
theorem KP.drew {w0 : World} {l : List (Nat × Nat × (Nat → Int))} {w : World} (h : KP w0 l w) : KP w0 l w.drew := ⟨h.1.drew, h.2⟩
theorem KP.alloc {w0 : World} {l : List (Nat × Nat × (Nat → Int))} {w : World} (h : KP w0 l w) (o : Obj) : KP w0 l (w.alloc o) := h.next (below1 w o)
theorem KP.setg {w0 : World} {l : List (Nat × Nat × (Nat → Int))} {w wg : World} (h : KP w0 l w) (hg : KP w0 l wg) (i : Nat) (v : Value) : KP w0 l (w.setCell ⟨wg.heap.size, i, none⟩ v) := by
  refine ⟨h.1.setCell hg.1.size v, fun e he => ?_⟩
  have h1 := h.2 e he
  have h2 := (hg.2 e he).1
  have hb : Below (e.1 + 1) w (w.setCell ⟨wg.heap.size, i, none⟩ v) := (Below.refl _ _).setCell (by show e.1 + 1 ≤ wg.heap.size; omega) v
  exact ⟨Nat.lt_of_lt_of_le h1.1 hb.size, fun j hj => (hb.cell (p := ⟨e.1, j, none⟩) (by show e.1 < e.1 + 1; omega)).trans (h1.2 j hj)⟩
theorem KP.cons {w0 : World} {l : List (Nat × Nat × (Nat → Int))} {w : World} (h : KP w0 l w) {g n : Nat} {x : Nat → Int} (hg : HasN g n x w) : KP w0 ((g, n, x) :: l) w := ⟨h.1, fun e he => by
  rcases List.mem_cons.1 he with rfl | he
  · exact hg
  · exact h.2 e he⟩
theorem KP.at {w0 : World} {l : List (Nat × Nat × (Nat → Int))} {w : World} (h : KP w0 l w) {g n : Nat} {x : Nat → Int} (hm : (g, n, x) ∈ l) : HasN g n x w := h.2 _ hm
theorem KP.new {w0 : World} {l : List (Nat × Nat × (Nat → Int))} {w : World} (h : KP w0 l w) (cs : Array Value) (t : TypeId) (n : Nat) (x : Nat → Int) (hc : ∀ i, i < n → cs[i]? = some (.int .u64 (x i))) : KP w0 ((w.heap.size, n, x) :: l) (w.alloc (.cells cs t)) :=
  (h.alloc _).cons (HasN.of_alloc w cs t n x hc)
/-- n cells of a block that was made some time ago, written one by one -/
def putN (w : World) (g : Nat) (x : Nat → Int) : Nat → World
  | 0 => w
  | n + 1 => (putN w g x n).setCell ⟨g, n, none⟩ (.int .u64 (x n))
theorem putN_kp {w0 : World} {l : List (Nat × Nat × (Nat → Int))} {w wg : World} (h : KP w0 l w) (hg : KP w0 l wg) (x : Nat → Int) : ∀ n, KP w0 l (putN w wg.heap.size x n)
  | 0 => h
  | n + 1 => (putN_kp h hg x n).setg hg n _
theorem putN_size (w : World) (g : Nat) (x : Nat → Int) : ∀ n, w.heap.size ≤ (putN w g x n).heap.size
  | 0 => Nat.le_refl _
  | n + 1 => Nat.le_trans (putN_size w g x n) ((Below.refl 0 _).setCell (Nat.zero_le _) _ : Below 0 _ _).size
theorem putN_cell (w : World) (g N : Nat) (x : Nat → Int) (hc : ∀ i, i < N → (w.cell? ⟨g, i, none⟩).isSome = true) : ∀ n, n ≤ N → ∀ i, i < N → (putN w g x n).cell? ⟨g, i, none⟩ = if i < n then some (.int .u64 (x i)) else w.cell? ⟨g, i, none⟩
  | 0, _, i, _ => by rw [if_neg (by omega)]; rfl
  | n + 1, hn, i, hi => by
    have ih := putN_cell w g N x hc n (by omega)
    show ((putN w g x n).setCell ⟨g, n, none⟩ (.int .u64 (x n))).cell? ⟨g, i, none⟩ = _
    by_cases e : i = n
    · subst e
      rw [if_pos (by omega)]
      have := ih i hi
      rw [if_neg (by omega)] at this
      exact World.cell?_setCell_same' _ _ _ (by rw [this]; exact hc i hi)
    · have hne : (⟨g, n, none⟩ : Addr) ≠ ⟨g, i, none⟩ := by intro h; injection h with h1 h2; exact e h2.symm
      refine Eq.trans (World.cell?_setCell_other (h := hne) ..) ?_
      rw [ih i hi]
      by_cases e2 : i < n
      · rw [if_pos e2, if_pos (by omega)]
      · rw [if_neg e2, if_neg (by omega)]
theorem KP.put {w0 : World} {l : List (Nat × Nat × (Nat → Int))} {w wg : World} (h : KP w0 l w) (hg : KP w0 l wg) (hlt : wg.heap.size < w.heap.size) (x : Nat → Int) (n : Nat) (hc : ∀ i, i < n → (w.cell? ⟨wg.heap.size, i, none⟩).isSome = true) : KP w0 ((wg.heap.size, n, x) :: l) (putN w wg.heap.size x n) :=
  (putN_kp h hg x n).cons ⟨Nat.lt_of_lt_of_le hlt (putN_size w _ x n), fun i hi => by rw [putN_cell w wg.heap.size n x hc n (Nat.le_refl _) i hi, if_pos hi]⟩
end Go.Proofs.YtmommdhnogogdaaGreatDoor

namespace Go.Proofs.YtmommdhnogogdaaGreatDoor
open Go.RowKit

set_option maxHeartbeats 400000 in
theorem bare_any (a : Option Addr) (n c : Nat) (x : Nat → Int) (w : World) (hn : n < 4294967296) (h : Num w a n c x) :
    Calls Tryz.prog 62 #[.slice a n c] w fun e w' => e = .returned (.slice a (sizeL x n) c) ∧ w = w' := by
  obtain ⟨h1, h2, h3, h4, h5⟩ := h
  rcases h5 with ⟨rfl, rfl⟩ | ⟨b, off, rfl, hbs, hc⟩
  · obtain rfl : n = 0 := by omega
    go_enter Tryz.func62, Tryz.ntmps62
    go_wp2
    go_loop [3] (fun t => t = .int .i64 0) (fun t => (intOf t).toNat)
    case atStart => rfl
    case round =>
      subst hrel
      go_wp2
      go_ret
      exact ⟨rfl, rfl⟩
  · unfold maxLen at h2
    clear h3 h4
    go_enter Tryz.func62, Tryz.ntmps62
    go_wp2
    go_loop [3] (fun t => ∃ k : Nat, k ≤ n ∧ sizeL x k = sizeL x n ∧ t = .int .i64 k) (fun t => (intOf t).toNat)
    case atStart => exact ⟨n, Nat.le_refl _, rfl, rfl⟩
    case round =>
      obtain ⟨k, hk, hs, rfl⟩ := hrel
      by_cases h0 : k = 0
      · subst h0
        have HS : Hid (sizeL x n = 0) := hs.symm
        clear hs hc
        go_wp2
        go_ret
        exact ⟨by rw [HS.out]; rfl, rfl⟩
      · obtain ⟨j, rfl⟩ : ∃ j, k = j + 1 := ⟨k - 1, by omega⟩
        have hcj := hc j (by omega)
        by_cases hzj : x j = 0
        · have HS : Hid (sizeL x j = sizeL x n) := by
            have : sizeL x (j + 1) = sizeL x j := by simp [sizeL, hzj]
            exact this.symm.trans hs
          clear hs hc
          go_wp2
          go_round
          case rel => exact ⟨j, by omega, HS.out, by go_num⟩
          case measure => simp [intOf]
        · have HS : Hid (sizeL x n = j + 1) := by
            have : sizeL x (j + 1) = j + 1 := by simp [sizeL, hzj]
            exact hs.symm.trans this
          clear hs hc
          go_wp2
          go_ret
          exact ⟨by rw [HS.out]; rfl, rfl⟩

theorem sizeL_zero {x : Nat → Int} : ∀ n, (∀ i, n ≤ i → x i = 0) → ∀ i, sizeL x n ≤ i → x i = 0
  | 0, h, i, _ => h i (Nat.zero_le _)
  | n + 1, h, i, hi => by
    by_cases hz : x n = 0
    · rw [show sizeL x (n + 1) = sizeL x n by simp [sizeL, hz]] at hi
      exact sizeL_zero n (fun j hj => if e : j = n then e ▸ hz else h j (by omega)) i hi
    · rw [show sizeL x (n + 1) = n + 1 by simp [sizeL, hz]] at hi
      exact h i hi
theorem sizeL_top {x : Nat → Int} : ∀ n, 0 < sizeL x n → x (sizeL x n - 1) ≠ 0
  | 0, h => by simp [sizeL] at h
  | n + 1, h => by
    by_cases hz : x n = 0
    · rw [show sizeL x (n + 1) = sizeL x n by simp [sizeL, hz]] at h ⊢
      exact sizeL_top n h
    · rw [show sizeL x (n + 1) = n + 1 by simp [sizeL, hz]]
      exact hz
theorem sizeL_sizeL (x : Nat → Int) : ∀ n, sizeL x (sizeL x n) = sizeL x n
  | 0 => rfl
  | n + 1 => by
    by_cases hz : x n = 0
    · rw [show sizeL x (n + 1) = sizeL x n by simp [sizeL, hz]]; exact sizeL_sizeL x n
    · have : sizeL x (n + 1) = n + 1 := by simp [sizeL, hz]
      rw [this]; exact this
theorem Num.bare {w : World} {a : Option Addr} {n c : Nat} {x : Nat → Int} (h : Num w a n c x) : Num w a (sizeL x n) c x := by
  obtain ⟨h1, h2, h3, h4, h5⟩ := h
  have hle := sizeL_le x n
  refine ⟨by omega, h2, h3, sizeL_zero n h4, ?_⟩
  rcases h5 with ⟨h, h'⟩ | ⟨b, off, h, hb, hc⟩
  · exact Or.inl ⟨h, h'⟩
  · exact Or.inr ⟨b, off, h, hb, fun i hi => hc i (by omega)⟩
theorem setRow_new (w : World) (cs ds : Array Value) (t : TypeId) : (w.alloc (.cells cs t)).setRow w.heap.size ds = w.alloc (.cells ds t) := World.setRow_alloc_new w cs ds t
theorem wl_get (x : Nat → Int) (k j : Nat) (v : Value) (h : (wl x k)[j]? = some v) : j < k ∧ v = .int .u64 (x j) := by
  have hj : j < k := by
    rcases Nat.lt_or_ge j k with h' | h'
    · exact h'
    · rw [List.getElem?_eq_none (by simpa [wl] using h')] at h; cases h
  refine ⟨hj, ?_⟩
  simpa [wl, hj] using h.symm
theorem copy_num {w : World} {a : Option Addr} {k c N C : Nat} {x : Nat → Int} (ty : TypeId) (h : Num w a k c x) (hN : k ≤ N) :
    (Builtin.copy_ #[25, 25] ty #[.slice (some ⟨w.heap.size, 0, none⟩) N C, .slice a k c]).run Tryz.prog (w.alloc (.cells (arrOf (fun _ => 0) N) 22)) = .ok (goInt k) (w.alloc (.cells (arrOf x N) 22)) := by
  obtain ⟨h1, h2, h3, h4, h5⟩ := h
  have hsz : (Tryz.prog.info? 22).map (·.size) = some 1 := by kernel_rfl
  rcases h5 with ⟨rfl, rfl⟩ | ⟨b, off, rfl, hb, hc⟩
  · obtain rfl : k = 0 := by omega
    rw [run_copy_none _ 25 25 ty 22 _ _ _ _ _ _ Tryz.underlying25 hsz (by simp)]
    have : arrOf (fun _ => 0) N = arrOf x N := arrOf_congr fun i _ => (h4 i (Nat.zero_le _)).symm
    rw [this]; rfl
  · have hl : (wl x k).length = k := by simp [wl]
    rw [run_copy_row _ _ 25 25 ty 22 w.heap.size 0 N C ⟨b, off, none⟩ k c (arrOf (fun _ => 0) N) 22 (wl x k) Tryz.underlying25 hsz (MapKept.heap_alloc w _).1 (by rw [hl]; exact (Nat.min_eq_left hN).symm) ?_ (by rw [hl, arrOf_size]; omega) ?_]
    · rw [hl, setRow_new]
      have : ((arrOf (fun _ => 0) N).toList.take 0 ++ wl x k ++ (arrOf (fun _ => 0) N).toList.drop (0 + k)).toArray = arrOf x N := by
        apply arrOf_of
        · simp [wl, arrOf]; omega
        · intro i hi
          by_cases hik : i < k
          · simp [wl, arrOf, List.getElem?_append, hik]
          · simp [wl, arrOf, List.getElem?_append, hik]
            rw [h4 i (by omega)]
            have : k + (i - k) = i := by omega
            simp [this, hi]
      rw [this]
    · intro j v hj
      obtain ⟨hjk, rfl⟩ := wl_get x k j v hj
      have ea : (⟨b, off, none⟩ : Addr).add j = ⟨b, off + j, none⟩ := by simp [Addr.add]
      rw [ea]
      exact ((below1 w _).cell (p := ⟨b, off + j, none⟩) hb).trans (hc j hjk)
    · intro v hv
      obtain ⟨q, _, rfl⟩ := List.mem_map.1 hv
      rfl

set_option maxHeartbeats 1000000 in
theorem ntrim_any (a : Option Addr) (n c : Nat) (x : Nat → Int) (w : World) (hn : n < 4294967296) (h : Num w a n c x) :
    Calls Tryz.prog 85 #[.slice a n c] w fun e w' => e = .returned (.slice (some ⟨w.heap.size, 0, none⟩) (sizeL x n) (sizeL x n)) ∧ w.alloc (.cells (arrOf x (sizeL x n)) 22) = w' := by
  have hb := bare_any a n c x w hn h
  have hle := sizeL_le x n
  have hmk := fun w => make_any (sizeL x n : Int) (sizeL x n) rfl (by omega) w
  have hcp := fun ty => copy_num (N := sizeL x n) (C := sizeL x n) ty h.bare (Nat.le_refl _)
  clear h
  generalize sizeL x n = s at *
  go_enter Tryz.func85, Tryz.ntmps85
  go_wp2_with (go_at_call 62; refine hb.mono ?_; rintro e w' ⟨rfl, rfl⟩)
  go_ret
  exact ⟨rfl, rfl⟩
end Go.Proofs.YtmommdhnogogdaaGreatDoor

namespace Go.Proofs.YtmommdhnogogdaaGreatDoor
open Go.RowKit
attribute [local go_sem ↓] Go.wp_at_zero Go.wp_at_succ
attribute [local go_sem] setCell_drewN alloc_drewN

theorem lowW_lt {x : Nat → Int} {N i : Nat} (h : i < N) : lowW x N i = x i := by unfold lowW; rw [if_pos h]
theorem lowW_ge {x : Nat → Int} {N i : Nat} (h : N ≤ i) : lowW x N i = 0 := by unfold lowW; rw [if_neg (by omega)]
end Go.Proofs.YtmommdhnogogdaaGreatDoor

namespace Go.Proofs.YtmommdhnogogdaaGreatDoor
open Go.RowKit

/-- block g is N words, those of x, none of them frozen -/
def Own (g N : Nat) (x : Nat → Int) (w : World) : Prop := w.heap[g]? = some (.cells (arrOf x N) 22)
/-- all but block g is as it was (the count of draws aside) -/
structure Upd (g : Nat) (w w' : World) : Prop where
  os : w'.os = w.os
  tape : w'.tape = w.tape
  output : w'.output = w.output
  size : w'.heap.size = w.heap.size
  block : ∀ k, k ≠ g → w'.heap[k]? = w.heap[k]?
theorem Upd.refl (g : Nat) (w : World) : Upd g w w := ⟨rfl, rfl, rfl, rfl, fun _ _ => rfl⟩
theorem Upd.trans {g : Nat} {a b c : World} (h : Upd g a b) (k : Upd g b c) : Upd g a c :=
  ⟨k.os.trans h.os, k.tape.trans h.tape, k.output.trans h.output, k.size.trans h.size, fun i hi => (k.block i hi).trans (h.block i hi)⟩
theorem Upd.drewN {g : Nat} {a b : World} (h : Upd g a b) (m : Nat) : Upd g a (b.drewN m) := ⟨h.os, h.tape, h.output, h.size, h.block⟩
theorem Upd.drew {g : Nat} {a b : World} (h : Upd g a b) : Upd g a b.drew := ⟨h.os, h.tape, h.output, h.size, h.block⟩
theorem Upd.set {g : Nat} {a b : World} (h : Upd g a b) (i : Nat) (v : Value) : Upd g a (b.setCell ⟨g, i, none⟩ v) :=
  h.trans ⟨rfl, rfl, rfl, by simp [World.setCell], fun k hk => Below.heap_setCell _ _ _ _ hk⟩
theorem Upd.below {g B : Nat} {w w' : World} (h : Upd g w w') (hB : B ≤ g) : Below B w w' := ⟨h.os, h.tape, h.output, Nat.le_of_eq h.size.symm, fun k hk => h.block k (by omega)⟩
theorem Upd.num {g : Nat} {w w' : World} {b off n c : Nat} {x : Nat → Int} (h : Upd g w w') (hb : b ≠ g) (hN : Num w (some ⟨b, off, none⟩) n c x) : Num w' (some ⟨b, off, none⟩) n c x := by
  obtain ⟨h1, h2, h3, h4, h5⟩ := hN
  refine ⟨h1, h2, h3, h4, ?_⟩
  rcases h5 with ⟨h5, _⟩ | ⟨b', off', h6, h7, h8⟩
  · cases h5
  · cases h6
    exact Or.inr ⟨b, off, rfl, by rw [h.size]; exact h7, fun i hi => (World.cell?_of_block (w := w) (a := ⟨b, off + i, none⟩) (h.block b hb)).trans (h8 i hi)⟩
/-- a number that lies elsewhere stays -/
def Apart (a : Option Addr) (g : Nat) : Prop := ∀ p, a = some p → p.block ≠ g
theorem Upd.num' {g : Nat} {w w' : World} {a : Option Addr} {n c : Nat} {x : Nat → Int} (h : Upd g w w') (hb : Apart a g) (hN : Num w a n c x) : Num w' a n c x := by
  have hN' := hN
  obtain ⟨h1, h2, h3, h4, h5⟩ := hN'
  rcases h5 with ⟨rfl, rfl⟩ | ⟨b', off', rfl, h7, h8⟩
  · exact ⟨h1, h2, h3, h4, Or.inl ⟨rfl, rfl⟩⟩
  · exact h.num (hb _ rfl) hN
theorem Upd.own {g g' N : Nat} {w w' : World} {x : Nat → Int} (h : Upd g w w') (hb : g' ≠ g) (hN : Own g' N x w) : Own g' N x w' := (h.block g' hb).trans hN
theorem Below.own {B g N : Nat} {w w' : World} {x : Nat → Int} (h : Below B w w') (hb : g < B) (hN : Own g N x w) : Own g N x w' := (h.block g hb).trans hN

theorem Own.lt {g N : Nat} {x : Nat → Int} {w : World} (h : Own g N x w) : g < w.heap.size := by
  rcases Nat.lt_or_ge g w.heap.size with h' | h'
  · exact h'
  · unfold Own at h; rw [Array.getElem?_eq_none h'] at h; cases h
theorem Own.cell {g N : Nat} {x : Nat → Int} {w : World} (h : Own g N x w) (i : Nat) (hi : i < N) : w.cell? ⟨g, i, none⟩ = some (.int .u64 (x i)) := by
  unfold World.cell?
  have hh : w.heap[g]? = some (.cells (arrOf x N) 22) := h
  simp [hh, arrOf_get? x N i hi]
theorem Own.frozen {g N : Nat} {x : Nat → Int} {w : World} (h : Own g N x w) (i : Nat) : w.frozen? ⟨g, i, none⟩ = false := by
  unfold World.frozen?
  have hh : w.heap[g]? = some (.cells (arrOf x N) 22) := h
  simp [hh]
theorem Own.set {g N : Nat} {x : Nat → Int} {w : World} (h : Own g N x w) (i : Nat) (v : Int) : Own g N (fun j => if j = i then v else x j) (w.setCell ⟨g, i, none⟩ (.int .u64 v)) := by
  have hh : w.heap[g]? = some (.cells (arrOf x N) 22) := h
  show (w.setCell ⟨g, i, none⟩ (.int .u64 v)).heap[g]? = _
  simp only [World.setCell, Array.getElem?_modify, if_true, hh]
  simp [arrOf_set]
theorem Own.congr {g N : Nat} {x y : Nat → Int} {w : World} (h : Own g N x w) (e : ∀ i, i < N → x i = y i) : Own g N y w := by
  unfold Own; rw [← arrOf_congr e]; exact h
theorem Own.new (w : World) (x : Nat → Int) (N : Nat) : Own w.heap.size N x (w.alloc (.cells (arrOf x N) 22)) := (MapKept.heap_alloc w _).1
/-- words off to off + m of the block, as a number -/
def segW (x : Nat → Int) (off m i : Nat) : Int := if i < m then x (off + i) else 0
theorem segW_words {x : Nat → Int} (hx : Words x) (off m : Nat) : Words (segW x off m) := fun i => by unfold segW; split; exact hx _; decide
theorem segW_zero (x : Nat → Int) (off m i : Nat) (h : m ≤ i) : segW x off m i = 0 := by unfold segW; rw [if_neg (by omega)]
theorem segW_lt (x : Nat → Int) (off m i : Nat) (h : i < m) : segW x off m i = x (off + i) := by unfold segW; rw [if_pos h]
theorem Own.num {g N : Nat} {x : Nat → Int} {w : World} (h : Own g N x w) (hx : Words x) (off m c : Nat) (hm : off + m ≤ N) (hc : m ≤ c) (hc2 : c ≤ maxLen) : Num w (some ⟨g, off, none⟩) m c (segW x off m) :=
  ⟨hc, hc2, segW_words hx off m, fun i hi => segW_zero x off m i hi, Or.inr ⟨g, off, rfl, h.lt, fun i hi => by rw [h.cell (off + i) (by omega), segW_lt x off m i hi]⟩⟩
end Go.Proofs.YtmommdhnogogdaaGreatDoor

namespace Go.Proofs.YtmommdhnogogdaaGreatDoor

/-- what a step is about: u below Y = d1 * 2^32 + d0, one digit e more -/
structure Dg (u d1 d0 e : Int) : Prop where
  a1 : 2147483648 ≤ d1
  a2 : d1 < 4294967296
  b1 : 0 ≤ d0
  b2 : d0 < 4294967296
  e1 : 0 ≤ e
  e2 : e < 4294967296
  u1 : 0 ≤ u
  u2 : u < d1 * 4294967296 + d0

theorem Dg.pos {u d1 d0 e : Int} (h : Dg u d1 d0 e) : 0 < d1 * 4294967296 + d0 := by have := h.a1; have := h.b1; omega
theorem mulY (q d1 d0 : Int) : q * (d1 * 4294967296 + d0) = (q * d1) * 4294967296 + q * d0 := by rw [Int.mul_add, Int.mul_assoc]
/-- the digit is below 2^32 -/
theorem Dg.lt {u d1 d0 e : Int} (h : Dg u d1 d0 e) : (u * 4294967296 + e) / (d1 * 4294967296 + d0) < 4294967296 := by
  apply Int.ediv_lt_of_lt_mul h.pos
  have := h.u2; have := h.e2; omega
theorem Dg.nonneg {u d1 d0 e : Int} (h : Dg u d1 d0 e) : 0 ≤ (u * 4294967296 + e) / (d1 * 4294967296 + d0) := Int.ediv_nonneg (by have := h.u1; have := h.e1; omega) (by have := h.pos; omega)
/-- the guess is too great -/
theorem Dg.big {u d1 d0 e q r : Int} (h : Dg u d1 d0 e) (hq : q * d1 + r = u) (ht : 4294967296 * r + e < q * d0) : (u * 4294967296 + e) / (d1 * 4294967296 + d0) ≤ q - 1 := by
  have : (u * 4294967296 + e) / (d1 * 4294967296 + d0) < q := by
    apply Int.ediv_lt_of_lt_mul h.pos
    rw [mulY]; omega
  omega
theorem Dg.big' {u d1 d0 e q : Int} (h : Dg u d1 d0 e) (ht : 4294967296 ≤ q) : (u * 4294967296 + e) / (d1 * 4294967296 + d0) ≤ q - 1 := by
  have := h.lt; omega
/-- the guess is right -/
theorem Dg.right {u d1 d0 e q r : Int} (h : Dg u d1 d0 e) (hq : q * d1 + r = u) (hge : (u * 4294967296 + e) / (d1 * 4294967296 + d0) ≤ q) (ht : q * d0 ≤ 4294967296 * r + e) : (u * 4294967296 + e) / (d1 * 4294967296 + d0) = q := by
  have : q ≤ (u * 4294967296 + e) / (d1 * 4294967296 + d0) := by
    apply Int.le_ediv_of_mul_le h.pos
    rw [mulY]; omega
  omega
theorem Dg.right' {u d1 d0 e q r : Int} (h : Dg u d1 d0 e) (hq : q * d1 + r = u) (hge : (u * 4294967296 + e) / (d1 * 4294967296 + d0) ≤ q) (hq2 : q ≤ 4294967296) (hr : 4294967296 ≤ r) : (u * 4294967296 + e) / (d1 * 4294967296 + d0) = q := by
  refine h.right hq hge ?_
  have h0 : 0 ≤ q := Int.le_trans h.nonneg hge
  have h1 : q * d0 ≤ 4294967296 * d0 := Int.mul_le_mul_of_nonneg_right hq2 h.b1
  have := h.b2; have := h.e1
  omega
/-- the first guess -/
theorem Dg.first {u d1 d0 e : Int} (h : Dg u d1 d0 e) : (u / d1) * d1 + u % d1 = u ∧ (u * 4294967296 + e) / (d1 * 4294967296 + d0) ≤ u / d1 ∧ u / d1 ≤ 4294967297 ∧ 0 ≤ u % d1 ∧ u % d1 < 4294967296 := by
  have a1 := h.a1; have a2 := h.a2
  have hd : 0 < d1 := by omega
  have e0 : (u / d1) * d1 + u % d1 = u := Int.mul_comm d1 _ ▸ Int.mul_ediv_add_emod u d1
  have m0 := Int.emod_nonneg u (show d1 ≠ 0 by omega)
  have m1 := Int.emod_lt_of_pos u hd
  refine ⟨e0, ?_, ?_, m0, by omega⟩
  · have : (u * 4294967296 + e) / (d1 * 4294967296 + d0) < u / d1 + 1 := by
      apply Int.ediv_lt_of_lt_mul h.pos
      rw [mulY, Int.add_mul]
      have p0 : 0 ≤ (u / d1 + 1) * d0 := Int.mul_nonneg (by have := Int.ediv_nonneg h.u1 (Int.le_of_lt hd); omega) h.b1
      have := h.e2
      omega
    omega
  · have : u / d1 < 4294967298 := by
      apply Int.ediv_lt_of_lt_mul hd
      have := h.u2; have := h.b2
      omega
    omega
end Go.Proofs.YtmommdhnogogdaaGreatDoor

namespace Go.Proofs.YtmommdhnogogdaaGreatDoor

theorem bitLenAux_spec : ∀ (f x : Nat), 0 < x → x < 2 ^ f → 1 ≤ Lib.bitLenAux f x ∧ 2 ^ (Lib.bitLenAux f x - 1) ≤ x ∧ x < 2 ^ Lib.bitLenAux f x
  | 0, x, h0, h => by simp at h; omega
  | f + 1, x, h0, h => by
    simp only [Lib.bitLenAux]
    rw [if_neg (by omega)]
    by_cases h1 : x / 2 = 0
    · have hx : x = 1 := by omega
      subst hx
      have : Lib.bitLenAux f (1 / 2) = 0 := by cases f <;> simp [Lib.bitLenAux]
      rw [this]; decide
    · have ih := bitLenAux_spec f (x / 2) (by omega) (by rw [Nat.pow_succ] at h; omega)
      generalize Lib.bitLenAux f (x / 2) = k at ih
      obtain ⟨j, rfl⟩ : ∃ j, k = j + 1 := ⟨k - 1, by omega⟩
      simp only [Nat.add_sub_cancel] at ih
      refine ⟨by omega, ?_, ?_⟩
      · rw [show 1 + (j + 1) - 1 = j + 1 by omega, Nat.pow_succ]; omega
      · rw [show 1 + (j + 1) = (j + 1) + 1 by omega, Nat.pow_succ]; omega
theorem bitLen_spec (x : Nat) (h0 : 0 < x) (h : x < 18446744073709551616) : 1 ≤ Lib.bitLen x ∧ Lib.bitLen x ≤ 64 ∧ 2 ^ (Lib.bitLen x - 1) ≤ x ∧ x < 2 ^ Lib.bitLen x := by
  have h1 := bitLenAux_spec 64 x h0 h
  have h2 : Lib.bitLen x ≤ 64 := by
    rcases Nat.lt_or_ge 64 (Lib.bitLen x) with h3 | h3
    · exfalso
      have h4 : 2 ^ 64 ≤ 2 ^ (Lib.bitLen x - 1) := Nat.pow_le_pow_right (by decide) (by omega)
      have h5 : 2 ^ (Lib.bitLen x - 1) ≤ x := h1.2.1
      have : (2 : Nat) ^ 64 = 18446744073709551616 := by decide
      omega
    · exact h3
  exact ⟨h1.1, h2, h1.2.1, h1.2.2⟩
/-- the shifted divisor has its highest bit -/
theorem norm_bd (y : Nat) (h0 : 0 < y) (h : y < 18446744073709551616) : 9223372036854775808 ≤ y * 2 ^ (64 - Lib.bitLen y) ∧ y * 2 ^ (64 - Lib.bitLen y) < 18446744073709551616 ∧ 64 - Lib.bitLen y < 64 := by
  obtain ⟨h1, h2, h3, h4⟩ := bitLen_spec y h0 h
  generalize hL : Lib.bitLen y = L at *
  have p1 : 2 ^ (L - 1) * 2 ^ (64 - L) = 9223372036854775808 := by rw [← Nat.pow_add, show L - 1 + (64 - L) = 63 by omega]
  have p2 : 2 ^ L * 2 ^ (64 - L) = 18446744073709551616 := by rw [← Nat.pow_add, show L + (64 - L) = 64 by omega]
  have hp : 0 < 2 ^ (64 - L) := Nat.pow_pos (by decide)
  exact ⟨by rw [← p1]; exact Nat.mul_le_mul_right _ h3, by rw [← p2]; exact Nat.mul_lt_mul_of_pos_right h4 hp, by omega⟩
/-- the two words shifted up, as three digits -/
theorem norm_join (hi lo y s : Nat) (hs : s < 64) (hh : hi < y) (hl : lo < 18446744073709551616) (hy : y * 2 ^ s < 18446744073709551616) :
    (hi * 2 ^ s) ||| (lo / 2 ^ (64 - s)) = hi * 2 ^ s + lo / 2 ^ (64 - s) ∧ (hi * 2 ^ s + lo / 2 ^ (64 - s)) * 18446744073709551616 + (lo * 2 ^ s) % 18446744073709551616 = (hi * 18446744073709551616 + lo) * 2 ^ s ∧ hi * 2 ^ s + lo / 2 ^ (64 - s) < y * 2 ^ s := by
  have hp : 0 < 2 ^ s := Nat.pow_pos (by decide)
  have hq : 0 < 2 ^ (64 - s) := Nat.pow_pos (by decide)
  have hpq : 2 ^ (64 - s) * 2 ^ s = 18446744073709551616 := by rw [← Nat.pow_add, show 64 - s + s = 64 by omega]
  have hlt : lo / 2 ^ (64 - s) < 2 ^ s := by
    rw [Nat.div_lt_iff_lt_mul hq, Nat.mul_comm, hpq]; exact hl
  have hsum : lo * 2 ^ s = (lo / 2 ^ (64 - s)) * 18446744073709551616 + (lo * 2 ^ s) % 18446744073709551616 := by
    have h1 : lo * 2 ^ s / 18446744073709551616 = lo / 2 ^ (64 - s) := by rw [← hpq, Nat.mul_div_mul_right _ _ hp]
    have h2 := Nat.div_add_mod (lo * 2 ^ s) 18446744073709551616
    rw [h1] at h2
    omega
  refine ⟨?_, ?_, ?_⟩
  · exact nat_join s _ _ (Nat.mul_mod_left _ _) hlt
  · rw [Nat.add_mul, Nat.add_mul, Nat.mul_right_comm hi 18446744073709551616 (2 ^ s)]
    omega
  · have : (hi + 1) * 2 ^ s ≤ y * 2 ^ s := Nat.mul_le_mul_right _ hh
    rw [Nat.add_mul] at this
    omega
/-- back again -/
theorem norm_back (n y s q r : Nat) (h : n * 2 ^ s = q * (y * 2 ^ s) + r) (hr : r < y * 2 ^ s) : q = n / y ∧ r / 2 ^ s = n % y := by
  have hp : 0 < 2 ^ s := Nat.pow_pos (by decide)
  have hy : 0 < y := by
    rcases Nat.eq_zero_or_pos y with h0 | h0
    · subst h0; simp at hr
    · exact h0
  have h1 : r = (n - q * y) * 2 ^ s := by
    rw [Nat.sub_mul, Nat.mul_assoc]; omega
  have h2 : n - q * y < y := by
    rw [h1] at hr; exact Nat.lt_of_mul_lt_mul_right hr
  have h3 : q * y ≤ n := by
    have : q * y * 2 ^ s ≤ n * 2 ^ s := by rw [h, Nat.mul_assoc]; omega
    exact Nat.le_of_mul_le_mul_right this hp
  have h4 : n = y * q + (n - q * y) := by rw [Nat.mul_comm y q]; omega
  constructor
  · rw [h4, Nat.mul_add_div hy, Nat.div_eq_of_lt h2]; omega
  · rw [h1, Nat.mul_div_cancel _ hp]
    conv => rhs; rw [h4]
    rw [Nat.mul_add_mod, Nat.mod_eq_of_lt h2]
end Go.Proofs.YtmommdhnogogdaaGreatDoor
