/-
  Texts that the proof leans on, joined: Lmul, Tim, Wd, Kp, Nb.
-/
import Derived.Test.YtjjaamdgochilaaDoorJ1
import Derived.Test.YtjjaamdgochilaaDoorJ2
import Derived.BigQuiet
import Derived.WalkKit
import Derived.Deep.Cut
import Derived.Deep.CutRange
import Derived.Laws.IdiomCopy
import Derived.Laws.CopyRow
import Derived.Deep.WholeRow
set_option linter.unusedVariables false
set_option linter.unusedSimpArgs false
set_option maxRecDepth 20000
set_option linter.unusedSectionVars false
namespace Go.Proofs.YtjjaamdgochilaaDoor
open Go.RowKit
attribute [local go_sem] setCell_drewN alloc_drewN

theorem mul64 (x y : Int) (hx : 0 ≤ x ∧ x ≤ 18446744073709551615) (hy : 0 ≤ y ∧ y ≤ 18446744073709551615) (w : World) :
    Calls Tryd.prog 72 #[.int .u64 x, .int .u64 y] w fun e w' => e = .returned (.tuple #[.int .u64 (x * y / 18446744073709551616), .int .u64 (x * y % 18446744073709551616)]) ∧ w' = w := by
  obtain ⟨a, rfl⟩ := Int.eq_ofNat_of_zero_le hx.1
  obtain ⟨b, rfl⟩ := Int.eq_ofNat_of_zero_le hy.1
  have h := Tryd.bits_Mul64 a b (by omega) (by omega) w
  rw [Int.natCast_ediv, Int.natCast_emod, Int.natCast_mul] at h
  exact h
theorem add64z (x y : Int) (hx : 0 ≤ x) (hy : 0 ≤ y) (w : World) : (callFunc 73 #[.int .u64 x, .int .u64 y, .int .u64 0]).run Tryd.prog w =
    .ok (.value (.tuple #[.int .u64 ((x + y) % 18446744073709551616), .int .u64 ((x + y) / 18446744073709551616)])) w := by
  simpa using add64 x y 0 hx hy (Int.le_refl 0) (by decide) w

/-- the carry into word k, and the product's words -/
def mulC (x : Nat → Int) (n : Int) : Nat → Int
  | 0 => 0
  | k + 1 => x k * n / 18446744073709551616 + (x k * n % 18446744073709551616 + mulC x n k) / 18446744073709551616
def mulP (x : Nat → Int) (n : Int) (k : Nat) : Int := (x k * n % 18446744073709551616 + mulC x n k) % 18446744073709551616
theorem mul_bd (a b c : Int) (ha : 0 ≤ a ∧ a ≤ 18446744073709551615) (hb : 0 ≤ b ∧ b ≤ 18446744073709551615) (hc : 0 ≤ c ∧ c ≤ 18446744073709551615) : 0 ≤ a * b / 18446744073709551616 + (a * b % 18446744073709551616 + c) / 18446744073709551616 ∧ a * b / 18446744073709551616 + (a * b % 18446744073709551616 + c) / 18446744073709551616 ≤ 18446744073709551615 := by
  have h1 : 0 ≤ a * b := Int.mul_nonneg ha.1 hb.1
  have h2 : a * b ≤ 18446744073709551615 * 18446744073709551615 := Int.mul_le_mul ha.2 hb.2 hb.1 (by decide)
  generalize a * b = P at *
  omega
theorem mulC_word {x : Nat → Int} {n : Int} (hx : Words x) (hn : 0 ≤ n ∧ n ≤ 18446744073709551615) : ∀ k, 0 ≤ mulC x n k ∧ mulC x n k ≤ 18446744073709551615
  | 0 => by simp [mulC]
  | k + 1 => mul_bd _ _ _ (hx k) hn (mulC_word hx hn k)
theorem mulP_words (x : Nat → Int) (n : Int) : Words (mulP x n) := fun i => ⟨Int.emod_nonneg _ (by decide), by have := Int.emod_lt_of_pos (x i * n % 18446744073709551616 + mulC x n i) (b := 18446744073709551616) (by decide); unfold mulP; omega⟩
theorem mul_val (x : Nat → Int) (n : Int) : ∀ k, val (mulP x n) k + mulC x n k * 18446744073709551616 ^ k = val x k * n
  | 0 => by simp [val, mulC]
  | k + 1 => by
    have ih := mul_val x n k
    have e1 : mulP x n k + mulC x n (k + 1) * 18446744073709551616 = x k * n + mulC x n k := by
      simp only [mulP, mulC]; generalize x k * n = P; omega
    simp only [val]
    rw [Int.pow_succ]
    generalize (18446744073709551616 : Int) ^ k = p at *
    generalize mulC x n (k + 1) = c' at *
    generalize mulP x n k = d at *
    have e2 : d = x k * n + mulC x n k - c' * 18446744073709551616 := by omega
    rw [e2]
    grind





end Go.Proofs.YtjjaamdgochilaaDoor

namespace Go.Proofs.YtjjaamdgochilaaDoor
open Go.RowKit
attribute [local go_sem] setCell_drewN alloc_drewN

theorem upd_get {ss : Array Value} {z : Nat → Int} {p : Nat} {v : Int} (h : ∀ j h, ss[j]'h = Value.int .u64 (z j)) (j : Nat) (hj : j < (ss.setIfInBounds p (.int .u64 v)).size) : (ss.setIfInBounds p (.int .u64 v))[j]'hj = Value.int .u64 (if j = p then v else z j) := by
  have h' : j < ss.size := by simpa using hj
  rw [Array.getElem_setIfInBounds h']
  by_cases e : p = j
  · subst e; simp
  · rw [if_neg e, h j h', if_neg (Ne.symm e)]
theorem upd_words {z : Nat → Int} {p : Nat} {v : Int} (hz : Words z) (hv : 0 ≤ v ∧ v ≤ 18446744073709551615) : Words (fun j => if j = p then v else z j) := fun i => by
  show 0 ≤ (if i = p then v else z i) ∧ (if i = p then v else z i) ≤ _
  split
  · exact hv
  · exact hz i
/-- the end of a round of the outer loop -/
theorem mul_outer (V Vi a vb c : Int) (i k : Nat) (h : V + c * 18446744073709551616 ^ (i + k) = Vi * vb + a * vb * 18446744073709551616 ^ i) : V + (c - 0) * 18446744073709551616 ^ (i + k) = (Vi + a * 18446744073709551616 ^ i) * vb := by
  rw [Int.sub_zero, h]; generalize (18446744073709551616 : Int) ^ i = p; grind

set_option maxHeartbeats 2000000 in
theorem times_raw (b off n c b' off' n' c' : Nat) (x y : Nat → Int) (w : World) (hn : n < 1000000) (hn' : n' < 1000000) (h : Num w (some ⟨b, off, none⟩) n c x) (h' : Num w (some ⟨b', off', none⟩) n' c' y) :
    Calls Tryd.prog 51 #[.slice (some ⟨b, off, none⟩) n c, .slice (some ⟨b', off', none⟩) n' c'] w fun e w' => ∃ g k cap z, e = .returned (.slice (some ⟨g, 0, none⟩) k cap) ∧ k ≤ n + n' + 1 ∧ Num w' (some ⟨g, 0, none⟩) k cap z ∧ val z (n + n' + 1) = val x n * val y n' ∧ Below w.heap.size w w' := by
  have hx := h.2.2.1
  have hy := h'.2.2.1
  have hc : b < w.heap.size ∧ ∀ i, i < n → w.cell? ⟨b, off + i, none⟩ = some (.int .u64 (x i)) := by
    rcases h.2.2.2.2 with ⟨h, _⟩ | ⟨b', off', h, hbs, hc⟩
    · cases h
    · cases h; exact ⟨hbs, hc⟩
  have hc' : b' < w.heap.size ∧ ∀ i, i < n' → w.cell? ⟨b', off' + i, none⟩ = some (.int .u64 (y i)) := by
    rcases h'.2.2.2.2 with ⟨h, _⟩ | ⟨b', off', h, hbs, hc⟩
    · cases h
    · cases h; exact ⟨hbs, hc⟩
  have hcap := h.1
  have hcap' := h'.1
  obtain ⟨M, hM⟩ : ∃ M, n + n' + 1 = M := ⟨_, rfl⟩
  have hMi : (n : Int) + n' + 1 = (M : Int) := by omega
  have hmk := fun w => make_any ((n : Int) + n' + 1) M hMi (by omega) w
  have hcw : ∀ (ss : Array Value) i, i < n → (w.alloc (.cells ss 22)).cell? ⟨b, off + i, none⟩ = some (.int .u64 (x i)) := fun ss i hi => ((below1 w _).cell (p := ⟨b, off + i, none⟩) hc.1).trans (hc.2 i hi)
  have hcw' : ∀ (ss : Array Value) i, i < n' → (w.alloc (.cells ss 22)).cell? ⟨b', off' + i, none⟩ = some (.int .u64 (y i)) := fun ss i hi => ((below1 w _).cell (p := ⟨b', off' + i, none⟩) hc'.1).trans (hc'.2 i hi)
  have HM : Hid (n + n' + 1 = M) := hM
  have HZ : Hid ((arrOf (fun _ => 0) M).size = M ∧ ∀ j h, (arrOf (fun _ => 0) M)[j]'h = Value.int .u64 0) := ⟨arrOf_size _ _, fun j h => arrOf_get _ _ _ _⟩
  clear h h' hMi hc hc' hM
  generalize arrOf (fun _ => 0) M = zz at *
  go_enter Tryd.func51, Tryd.ntmps51
  go_wp2
  go_loopw [22] (fun i wr => ∃ (k m : Nat) (ss : Array Value) (z : Nat → Int), k ≤ n ∧ i = .int .i64 k ∧ ss.size = M ∧ (∀ j h, ss[j]'h = Value.int .u64 (z j)) ∧ Words z ∧ (∀ j, k + n' ≤ j → z j = 0) ∧ val z M = val x k * val y n' ∧ wr = (w.alloc (.cells ss 22)).drewN m) (fun i _ => n - (intOf i).toNat)
  case atStart =>
    refine ⟨0, 0, zz, fun _ => 0, Nat.zero_le _, rfl, HZ.out.1, HZ.out.2, fun _ => (by decide : (0 : Int) ≤ 0 ∧ (0 : Int) ≤ 18446744073709551615), fun _ _ => rfl, ?_, rfl⟩
    have : ∀ m, val (fun _ => 0) m = 0 := by intro m; induction m with | zero => rfl | succ m ih => simp only [val]; rw [ih]; simp
    rw [this]; simp [val]
  case round =>
    obtain ⟨k, m, ss, z, hk, rfl, hsz, hss, hzw, hz0, hv, rfl⟩ := hrel
    by_cases h8 : k < n
    · have h8i : (k : Int) < n := by omega
      have bx := hx k
      have hcx := fun ss => hcw ss k h8
      have h0p : (∀ j, k + n' ≤ j → z j = 0) := hz0
      go_wp2
      go_loopw [7, 27] (fun cc kk wr => ∃ (q m : Nat) (ss : Array Value) (z : Nat → Int) (C : Int), q ≤ n' ∧ kk = .int .i64 q ∧ cc = .int .u64 C ∧ (0 ≤ C ∧ C ≤ 18446744073709551615) ∧ ss.size = M ∧ (∀ j h, ss[j]'h = Value.int .u64 (z j)) ∧ Words z ∧ (∀ j, k + n' ≤ j → z j = 0) ∧ Hid (val z M + C * 18446744073709551616 ^ (k + q) = val x k * val y n' + x k * val y q * 18446744073709551616 ^ k) ∧ wr = (w.alloc (.cells ss 22)).drewN m) (fun _ kk _ => n' - (intOf kk).toNat)
      case atStart => exact ⟨0, m, ss, z, 0, Nat.zero_le _, rfl, rfl, by decide, hsz, hss, hzw, hz0, by show _ = _; rw [hv]; simp [val], rfl⟩
      case round =>
        clear hss hsz hzw hz0 hv h0p
        obtain ⟨q, m2, s2, z2, C, hq, rfl, rfl, hCb, hsz, hss, hzw, hz0, hv, rfl⟩ := hrel
        by_cases hqn : q < n'
        · have hqi : (q : Int) < n' := by omega
          have b_y := hy q
          have hcy := hcw' s2 q hqn
          have hcx2 := hcx s2
          have hp : k + q < s2.size := by have := HM.out; omega
          have hpi : (k : Int) + q < M := by have := HM.out; omega
          have e1 : ((k : Int) + q).toNat = k + q := by omega
          have hsp : s2[k + q]? = some (.int .u64 (z2 (k + q))) := by rw [Array.getElem?_eq_getElem hp, hss _ hp]
          have hsp' : ∀ h, s2[k + q]'h = .int .u64 (z2 (k + q)) := fun h => hss _ h
          have hzp := hzw (k + q)
          have hms := mul_step (x k) (y q) (z2 (k + q)) C bx b_y hzp hCb
          have hmul := mul64 (x k) (y q) bx b_y
          have hL0 : 0 ≤ x k * y q % 18446744073709551616 := Int.emod_nonneg _ (by decide)
          have hH0 : 0 ≤ x k * y q / 18446744073709551616 := Int.ediv_nonneg (Int.mul_nonneg bx.1 b_y.1) (by decide)
          have hA1 := fun w => add64z (x k * y q % 18446744073709551616) (z2 (k + q)) hL0 hzp.1 w
          have hs0 : 0 ≤ (x k * y q % 18446744073709551616 + z2 (k + q)) % 18446744073709551616 := Int.emod_nonneg _ (by decide)
          have hd0 : 0 ≤ (x k * y q % 18446744073709551616 + z2 (k + q)) / 18446744073709551616 := Int.ediv_nonneg (by omega) (by decide)
          have hA2 := fun w => add64z ((x k * y q % 18446744073709551616 + z2 (k + q)) % 18446744073709551616) C hs0 hCb.1 w
          have ht0 : 0 ≤ ((x k * y q % 18446744073709551616 + z2 (k + q)) % 18446744073709551616 + C) % 18446744073709551616 ∧ ((x k * y q % 18446744073709551616 + z2 (k + q)) % 18446744073709551616 + C) % 18446744073709551616 ≤ 18446744073709551615 := by omega
          have hf0 : 0 ≤ ((x k * y q % 18446744073709551616 + z2 (k + q)) % 18446744073709551616 + C) / 18446744073709551616 := Int.ediv_nonneg (by omega) (by decide)
          generalize ((x k * y q % 18446744073709551616 + z2 (k + q)) % 18446744073709551616 + C) % 18446744073709551616 = t2 at *
          generalize ((x k * y q % 18446744073709551616 + z2 (k + q)) % 18446744073709551616 + C) / 18446744073709551616 = f2 at *
          generalize (x k * y q % 18446744073709551616 + z2 (k + q)) % 18446744073709551616 = t1 at *
          generalize (x k * y q % 18446744073709551616 + z2 (k + q)) / 18446744073709551616 = f1 at *
          generalize x k * y q % 18446744073709551616 = lo at *
          generalize x k * y q / 18446744073709551616 = hi at *
          have HMS : Hid (t2 + (hi + f1 + f2) * 18446744073709551616 = x k * y q + z2 (k + q) + C) := hms.1
          have hb1 : 0 ≤ hi + f1 := hms.2.1
          have hb2 : hi + f1 ≤ 18446744073709551615 := hms.2.2.1
          have hb3 : 0 ≤ hi + f1 + f2 := hms.2.2.2.1
          have hb4 : hi + f1 + f2 ≤ 18446744073709551615 := hms.2.2.2.2
          have HSS : Hid (∀ j h, s2[j]'h = Value.int .u64 (z2 j)) := hss
          have HZW : Hid (Words z2) := hzw
          have HZ0 : Hid (∀ j, k + n' ≤ j → z2 j = 0) := hz0
          have HR : Hid (val (fun j => if j = k + q then t2 else z2 j) M + (hi + f1 + f2) * 18446744073709551616 ^ (k + (q + 1)) = val x k * val y n' + x k * val y (q + 1) * 18446744073709551616 ^ k) := by
            show _ = _
            rw [val_set z2 (k + q) t2 M (by have := HM.out; omega)]
            exact mul_inner _ _ _ _ _ _ _ _ _ k q hv.out hms.1
          clear hms hss hzw hz0 hx hy hcw hcw' hmk hv
          go_wp2
          go_quiet ((go_at_call 72; exact (hmul _).mono fun _ _ h => ⟨h.1, _, h.2⟩))
          go_wp2
          go_roundw
          case rel => exact ⟨q + 1, m2 + nq, s2.setIfInBounds (k + q) (.int .u64 t2), fun j => if j = k + q then t2 else z2 j, hi + f1 + f2, by omega, by go_num, rfl, ⟨hb3, hb4⟩, by simp [hsz], upd_get HSS.out, upd_words HZW.out ht0, fun j hj => (if_neg (show ¬ j = k + q by omega)).trans (HZ0.out j hj), HR, by simp [go_sem]⟩
          case measure => simp [intOf]; omega
        · obtain rfl : q = n' := by omega
          have hp : k + q < s2.size := by have := HM.out; omega
          have hpi : (k : Int) + q < M := by have := HM.out; omega
          have e1 : ((k : Int) + q).toNat = k + q := by omega
          have hsp : s2[k + q]? = some (.int .u64 0) := by rw [Array.getElem?_eq_getElem hp, hss _ hp, hz0 _ (Nat.le_refl _)]
          have HR : Hid (val (fun j => if j = k + q then C else z2 j) M = val x (k + 1) * val y q) := by
            show _ = _
            rw [val_set z2 (k + q) C M (by have := HM.out; omega), hz0 _ (Nat.le_refl _)]
            exact mul_outer _ _ _ _ _ k q hv.out
          have HSS : Hid (∀ j h, s2[j]'h = Value.int .u64 (z2 j)) := hss
          have HZW : Hid (Words z2) := hzw
          have HZ0 : Hid (∀ j, k + q ≤ j → z2 j = 0) := hz0
          clear hss hzw hz0 hx hy hcw hcw' hmk hv hcx
          go_wp2
          go_roundw
          case rel => exact ⟨k + 1, m2, s2.setIfInBounds (k + q) (.int .u64 C), fun j => if j = k + q then C else z2 j, by omega, by go_num, by simp [hsz], upd_get HSS.out, upd_words HZW.out hCb, fun j hj => (if_neg (show ¬ j = k + q by omega)).trans (HZ0.out j (by omega)), HR.out, by simp [go_sem]⟩
          case measure => simp [intOf]; omega
    · obtain rfl : k = n := by omega
      have hT := trim_any _ _ _ _ _ (by have := HM.out; omega) ((num_of_block (w := w) (by have := HM.out; omega) hzw (fun i hi => hz0 i (by have := HM.out; omega)) hsz hss).drewN m)
      have hle := sizeL_le z M
      clear hss hmk hx hy hcw hcw' hzw hz0
      go_wp2_with (go_at_call 58; refine hT.mono ?_; rintro e w1 ⟨g, cap, rfl, hN, hB⟩)
      go_ret
      exact ⟨g, _, cap, z, rfl, Nat.le_trans hle (Nat.le_of_eq HM.out.symm), hN, by rw [HM.out]; exact hv, (below_drewN (below1 w _) m).trans (hB.mono (by simp))⟩
end Go.Proofs.YtjjaamdgochilaaDoor

namespace Go.Proofs.YtjjaamdgochilaaDoor
open Go.RowKit

/-- a world of the class p -/
structure Wd (p : World → Prop) where
  w : World
  h : p w

theorem calls_wd {P : Program} {p : World → Prop} {f : FuncId} {args : Array Value} {v : Value} (t : Wd p) (hp : ∀ w w', p w → Below w.heap.size w w' → p w')
    (h : Calls P f args t.w fun e w' => e = .returned v ∧ Below t.w.heap.size t.w w') : Calls P f args t.w fun e w'' => e = .returned v ∧ ∃ t' : Wd p, w'' = t'.w :=
  h.mono fun _ w' ⟨h1, h2⟩ => ⟨h1, ⟨w', hp _ _ t.h h2⟩, rfl⟩
end Go.Proofs.YtjjaamdgochilaaDoor

namespace Go.Proofs.YtjjaamdgochilaaDoor
open Go.RowKit

/-- the words of x lie in block g -/
def HasN (g n : Nat) (x : Nat → Int) (w : World) : Prop := g < w.heap.size ∧ ∀ i, i < n → w.cell? ⟨g, i, none⟩ = some (.int .u64 (x i))
theorem HasN.next {g n : Nat} {x : Nat → Int} {w w' : World} (h : HasN g n x w) (hb : Below w.heap.size w w') : HasN g n x w' :=
  ⟨Nat.lt_of_lt_of_le h.1 hb.size, fun i hi => (hb.cell (p := ⟨g, i, none⟩) h.1).trans (h.2 i hi)⟩
theorem HasN.of_alloc (w : World) (cs : Array Value) (t : TypeId) (n : Nat) (x : Nat → Int) (h : ∀ i, i < n → cs[i]? = some (.int .u64 (x i))) : HasN w.heap.size n x (w.alloc (.cells cs t)) :=
  ⟨by simp, fun i hi => by rw [World.cell?_alloc_new]; exact h i hi⟩
theorem HasN.num {g n c m : Nat} {x : Nat → Int} {w : World} (h : HasN g m x w) (hx : Words x) (hn : n ≤ m) (hc : n ≤ c) (hcm : c ≤ maxLen) : Num w (some ⟨g, 0, none⟩) n c (lowW x n) :=
  ⟨hc, hcm, lowW_words hx n, fun i hi => by unfold lowW; rw [if_neg (by omega)], Or.inr ⟨g, 0, rfl, h.1, fun i hi => by rw [Nat.zero_add, h.2 i (by omega)]; unfold lowW; rw [if_pos hi]⟩⟩

/-- all the blocks of the list stand; nothing elder than the call has turned -/
def KP (w0 : World) (l : List (Nat × Nat × (Nat → Int))) (w : World) : Prop := Below w0.heap.size w0 w ∧ ∀ e ∈ l, HasN e.1 e.2.1 e.2.2 w
theorem KP.next {w0 : World} {l : List (Nat × Nat × (Nat → Int))} {w w' : World} (h : KP w0 l w) (hb : Below w.heap.size w w') : KP w0 l w' := ⟨h.1.trans (hb.mono h.1.size), fun e he => (h.2 e he).next hb⟩
theorem KP.drew {w0 : World} {l : List (Nat × Nat × (Nat → Int))} {w : World} (h : KP w0 l w) : KP w0 l w.drew := ⟨h.1.drew, h.2⟩
theorem KP.alloc {w0 : World} {l : List (Nat × Nat × (Nat → Int))} {w : World} (h : KP w0 l w) (o : Obj) : KP w0 l (w.alloc o) := h.next (below1 w o)
theorem KP.setg {w0 : World} {l : List (Nat × Nat × (Nat → Int))} {w wg : World} (h : KP w0 l w) (hg : KP w0 l wg) (i : Nat) (v : Value) : KP w0 l (w.setCell ⟨wg.heap.size, i, none⟩ v) := by
  refine ⟨h.1.setCell hg.1.size v, fun e he => ?_⟩
  have h1 := h.2 e he
  have h2 := (hg.2 e he).1
  have hb : Below (e.1 + 1) w (w.setCell ⟨wg.heap.size, i, none⟩ v) := (Below.refl _ _).setCell (by show e.1 + 1 ≤ wg.heap.size; omega) v
  exact ⟨Nat.lt_of_lt_of_le h1.1 hb.size, fun j hj => (hb.cell (p := ⟨e.1, j, none⟩) (by show e.1 < e.1 + 1; omega)).trans (h1.2 j hj)⟩
theorem KP.cons {w0 : World} {l : List (Nat × Nat × (Nat → Int))} {w : World} (h : KP w0 l w) {g n : Nat} {x : Nat → Int} (hg : HasN g n x w) : KP w0 ((g, n, x) :: l) w := ⟨h.1, fun e he => by
  rcases List.mem_cons.1 he with rfl | he
  · exact hg
  · exact h.2 e he⟩
theorem KP.at {w0 : World} {l : List (Nat × Nat × (Nat → Int))} {w : World} (h : KP w0 l w) {g n : Nat} {x : Nat → Int} (hm : (g, n, x) ∈ l) : HasN g n x w := h.2 _ hm
theorem KP.new {w0 : World} {l : List (Nat × Nat × (Nat → Int))} {w : World} (h : KP w0 l w) (cs : Array Value) (t : TypeId) (n : Nat) (x : Nat → Int) (hc : ∀ i, i < n → cs[i]? = some (.int .u64 (x i))) : KP w0 ((w.heap.size, n, x) :: l) (w.alloc (.cells cs t)) :=
  (h.alloc _).cons (HasN.of_alloc w cs t n x hc)
/-- n cells of a block that was made some time ago, written one by one -/
def putN (w : World) (g : Nat) (x : Nat → Int) : Nat → World
  | 0 => w
  | n + 1 => (putN w g x n).setCell ⟨g, n, none⟩ (.int .u64 (x n))
theorem putN_kp {w0 : World} {l : List (Nat × Nat × (Nat → Int))} {w wg : World} (h : KP w0 l w) (hg : KP w0 l wg) (x : Nat → Int) : ∀ n, KP w0 l (putN w wg.heap.size x n)
  | 0 => h
  | n + 1 => (putN_kp h hg x n).setg hg n _
theorem putN_size (w : World) (g : Nat) (x : Nat → Int) : ∀ n, w.heap.size ≤ (putN w g x n).heap.size
  | 0 => Nat.le_refl _
  | n + 1 => Nat.le_trans (putN_size w g x n) ((Below.refl 0 _).setCell (Nat.zero_le _) _ : Below 0 _ _).size
theorem putN_cell (w : World) (g N : Nat) (x : Nat → Int) (hc : ∀ i, i < N → (w.cell? ⟨g, i, none⟩).isSome = true) : ∀ n, n ≤ N → ∀ i, i < N → (putN w g x n).cell? ⟨g, i, none⟩ = if i < n then some (.int .u64 (x i)) else w.cell? ⟨g, i, none⟩
  | 0, _, i, _ => by rw [if_neg (by omega)]; rfl
  | n + 1, hn, i, hi => by
    have ih := putN_cell w g N x hc n (by omega)
    show ((putN w g x n).setCell ⟨g, n, none⟩ (.int .u64 (x n))).cell? ⟨g, i, none⟩ = _
    by_cases e : i = n
    · subst e
      rw [if_pos (by omega)]
      have := ih i hi
      rw [if_neg (by omega)] at this
      exact World.cell?_setCell_same' _ _ _ (by rw [this]; exact hc i hi)
    · have hne : (⟨g, n, none⟩ : Addr) ≠ ⟨g, i, none⟩ := by intro h; injection h with h1 h2; exact e h2.symm
      refine Eq.trans (World.cell?_setCell_other (h := hne) ..) ?_
      rw [ih i hi]
      by_cases e2 : i < n
      · rw [if_pos e2, if_pos (by omega)]
      · rw [if_neg e2, if_neg (by omega)]
theorem KP.put {w0 : World} {l : List (Nat × Nat × (Nat → Int))} {w wg : World} (h : KP w0 l w) (hg : KP w0 l wg) (hlt : wg.heap.size < w.heap.size) (x : Nat → Int) (n : Nat) (hc : ∀ i, i < n → (w.cell? ⟨wg.heap.size, i, none⟩).isSome = true) : KP w0 ((wg.heap.size, n, x) :: l) (putN w wg.heap.size x n) :=
  (putN_kp h hg x n).cons ⟨Nat.lt_of_lt_of_le hlt (putN_size w _ x n), fun i hi => by rw [putN_cell w wg.heap.size n x hc n (Nat.le_refl _) i hi, if_pos hi]⟩
end Go.Proofs.YtjjaamdgochilaaDoor

namespace Go.Proofs.YtjjaamdgochilaaDoor
open Go.RowKit

set_option maxHeartbeats 400000 in
theorem bare_any (a : Option Addr) (n c : Nat) (x : Nat → Int) (w : World) (hn : n < 4294967296) (h : Num w a n c x) :
    Calls Tryd.prog 85 #[.slice a n c] w fun e w' => e = .returned (.slice a (sizeL x n) c) ∧ w = w' := by
  obtain ⟨h1, h2, h3, h4, h5⟩ := h
  rcases h5 with ⟨rfl, rfl⟩ | ⟨b, off, rfl, hbs, hc⟩
  · obtain rfl : n = 0 := by omega
    go_enter Tryd.func85, Tryd.ntmps85
    go_wp2
    go_loop [3] (fun t => t = .int .i64 0) (fun t => (intOf t).toNat)
    case atStart => rfl
    case round =>
      subst hrel
      go_wp2
      go_ret
      exact ⟨rfl, rfl⟩
  · unfold maxLen at h2
    clear h3 h4
    go_enter Tryd.func85, Tryd.ntmps85
    go_wp2
    go_loop [3] (fun t => ∃ k : Nat, k ≤ n ∧ sizeL x k = sizeL x n ∧ t = .int .i64 k) (fun t => (intOf t).toNat)
    case atStart => exact ⟨n, Nat.le_refl _, rfl, rfl⟩
    case round =>
      obtain ⟨k, hk, hs, rfl⟩ := hrel
      by_cases h0 : k = 0
      · subst h0
        have HS : Hid (sizeL x n = 0) := hs.symm
        clear hs hc
        go_wp2
        go_ret
        exact ⟨by rw [HS.out]; rfl, rfl⟩
      · obtain ⟨j, rfl⟩ : ∃ j, k = j + 1 := ⟨k - 1, by omega⟩
        have hcj := hc j (by omega)
        by_cases hzj : x j = 0
        · have HS : Hid (sizeL x j = sizeL x n) := by
            have : sizeL x (j + 1) = sizeL x j := by simp [sizeL, hzj]
            exact this.symm.trans hs
          clear hs hc
          go_wp2
          go_round
          case rel => exact ⟨j, by omega, HS.out, by go_num⟩
          case measure => simp [intOf]
        · have HS : Hid (sizeL x n = j + 1) := by
            have : sizeL x (j + 1) = j + 1 := by simp [sizeL, hzj]
            exact hs.symm.trans this
          clear hs hc
          go_wp2
          go_ret
          exact ⟨by rw [HS.out]; rfl, rfl⟩

theorem sizeL_zero {x : Nat → Int} : ∀ n, (∀ i, n ≤ i → x i = 0) → ∀ i, sizeL x n ≤ i → x i = 0
  | 0, h, i, _ => h i (Nat.zero_le _)
  | n + 1, h, i, hi => by
    by_cases hz : x n = 0
    · rw [show sizeL x (n + 1) = sizeL x n by simp [sizeL, hz]] at hi
      exact sizeL_zero n (fun j hj => if e : j = n then e ▸ hz else h j (by omega)) i hi
    · rw [show sizeL x (n + 1) = n + 1 by simp [sizeL, hz]] at hi
      exact h i hi
theorem sizeL_top {x : Nat → Int} : ∀ n, 0 < sizeL x n → x (sizeL x n - 1) ≠ 0
  | 0, h => by simp [sizeL] at h
  | n + 1, h => by
    by_cases hz : x n = 0
    · rw [show sizeL x (n + 1) = sizeL x n by simp [sizeL, hz]] at h ⊢
      exact sizeL_top n h
    · rw [show sizeL x (n + 1) = n + 1 by simp [sizeL, hz]]
      exact hz
theorem sizeL_sizeL (x : Nat → Int) : ∀ n, sizeL x (sizeL x n) = sizeL x n
  | 0 => rfl
  | n + 1 => by
    by_cases hz : x n = 0
    · rw [show sizeL x (n + 1) = sizeL x n by simp [sizeL, hz]]; exact sizeL_sizeL x n
    · have : sizeL x (n + 1) = n + 1 := by simp [sizeL, hz]
      rw [this]; exact this
end Go.Proofs.YtjjaamdgochilaaDoor
