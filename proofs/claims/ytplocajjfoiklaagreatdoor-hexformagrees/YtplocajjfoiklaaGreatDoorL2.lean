/-
  Texts that the proof leans on, joined: Val, Lmul, Tim, Wd, Kp, Nb.
-/
import Derived.WalkKit
import Derived.Test.YtplocajjfoiklaaGreatDoorL1
import Derived.BigQuiet
import Derived.Deep.Cut
import Derived.Deep.CutRange
import Derived.Laws.IdiomCopy
import Derived.Laws.CopyRow
import Derived.Deep.WholeRow
set_option linter.unusedVariables false
set_option maxRecDepth 20000
set_option linter.unusedSectionVars false
set_option linter.unusedSimpArgs false
namespace Go.Proofs.YtplocajjfoiklaaGreatDoor

/-- the value of the n lowest words -/
def val (x : Nat → Int) : Nat → Int
  | 0 => 0
  | n + 1 => val x n + x n * 18446744073709551616 ^ n
theorem val_congr {x y : Nat → Int} : ∀ n, (∀ i, i < n → x i = y i) → val x n = val y n
  | 0, _ => rfl
  | n + 1, h => by simp only [val]; rw [val_congr n fun i hi => h i (by omega), h n (by omega)]
theorem pw_pos (n : Nat) : (0 : Int) < 18446744073709551616 ^ n := Int.pow_pos (by decide)
theorem val_bd {x : Nat → Int} (hx : ∀ i, 0 ≤ x i ∧ x i ≤ 18446744073709551615) : ∀ n, 0 ≤ val x n ∧ val x n < 18446744073709551616 ^ n
  | 0 => by simp [val]
  | n + 1 => by
    have ih := val_bd hx n
    have hb := hx n
    have hp := pw_pos n
    simp only [val]
    have h1 : 0 ≤ x n * 18446744073709551616 ^ n := Int.mul_nonneg hb.1 (Int.le_of_lt hp)
    have h2 : x n * 18446744073709551616 ^ n ≤ 18446744073709551615 * 18446744073709551616 ^ n := Int.mul_le_mul_of_nonneg_right hb.2 (Int.le_of_lt hp)
    rw [Int.pow_succ]
    omega
theorem val_set (x : Nat → Int) (p : Nat) (v : Int) : ∀ n, p < n → val (fun i => if i = p then v else x i) n = val x n + (v - x p) * 18446744073709551616 ^ p
  | 0, h => by omega
  | n + 1, h => by
    simp only [val]
    by_cases e : n = p
    · subst e
      rw [if_pos rfl, val_congr (y := x) n fun i hi => if_neg (by omega), Int.sub_mul]; omega
    · rw [if_neg e, val_set x p v n (by omega)]; omega
/-- words are told by the value -/
theorem val_inj {x y : Nat → Int} (hx : ∀ i, 0 ≤ x i ∧ x i ≤ 18446744073709551615) (hy : ∀ i, 0 ≤ y i ∧ y i ≤ 18446744073709551615) : ∀ n, val x n = val y n → ∀ i, i < n → x i = y i
  | 0, _, i, hi => by omega
  | n + 1, h, i, hi => by
    simp only [val] at h
    have bx := val_bd hx n
    have b_y := val_bd hy n
    have hp := pw_pos n
    have e1 : (val x n + x n * 18446744073709551616 ^ n) / 18446744073709551616 ^ n = x n := by
      rw [Int.add_mul_ediv_right _ _ (Int.ne_of_gt hp), Int.ediv_eq_zero_of_lt bx.1 bx.2]; omega
    have e2 : (val y n + y n * 18446744073709551616 ^ n) / 18446744073709551616 ^ n = y n := by
      rw [Int.add_mul_ediv_right _ _ (Int.ne_of_gt hp), Int.ediv_eq_zero_of_lt b_y.1 b_y.2]; omega
    have e3 : x n = y n := by rw [← e1, ← e2, h]
    by_cases e : i = n
    · subst e; exact e3
    · rw [e3] at h
      exact val_inj hx hy n (by omega) i (by omega)
theorem val_more {x : Nat → Int} {n : Nat} (hz : ∀ i, n ≤ i → x i = 0) : ∀ m, n ≤ m → val x m = val x n
  | 0, h => by obtain rfl : n = 0 := by omega
               rfl
  | m + 1, h => by
    by_cases e : n = m + 1
    · rw [e]
    · simp only [val]; rw [val_more hz m (by omega), hz m (by omega)]; omega

/-- one word's product, the word that lies there and the carry: what is laid and what is carried -/
theorem mul_step (a b z c : Int) (ha : 0 ≤ a ∧ a ≤ 18446744073709551615) (hb : 0 ≤ b ∧ b ≤ 18446744073709551615) (hz : 0 ≤ z ∧ z ≤ 18446744073709551615) (hc : 0 ≤ c ∧ c ≤ 18446744073709551615) :
    ((a * b % 18446744073709551616 + z) % 18446744073709551616 + c) % 18446744073709551616 + (a * b / 18446744073709551616 + (a * b % 18446744073709551616 + z) / 18446744073709551616 + ((a * b % 18446744073709551616 + z) % 18446744073709551616 + c) / 18446744073709551616) * 18446744073709551616 = a * b + z + c ∧
    0 ≤ a * b / 18446744073709551616 + (a * b % 18446744073709551616 + z) / 18446744073709551616 ∧ a * b / 18446744073709551616 + (a * b % 18446744073709551616 + z) / 18446744073709551616 ≤ 18446744073709551615 ∧
    0 ≤ a * b / 18446744073709551616 + (a * b % 18446744073709551616 + z) / 18446744073709551616 + ((a * b % 18446744073709551616 + z) % 18446744073709551616 + c) / 18446744073709551616 ∧ a * b / 18446744073709551616 + (a * b % 18446744073709551616 + z) / 18446744073709551616 + ((a * b % 18446744073709551616 + z) % 18446744073709551616 + c) / 18446744073709551616 ≤ 18446744073709551615 := by
  have h1 : 0 ≤ a * b := Int.mul_nonneg ha.1 hb.1
  have h2 : a * b ≤ 18446744073709551615 * 18446744073709551615 := Int.mul_le_mul ha.2 hb.2 hb.1 (by decide)
  generalize a * b = P at *
  omega
/-- a round of the inner loop -/
theorem mul_inner (V Vi a vb b z c s hi : Int) (i k : Nat) (h : V + c * 18446744073709551616 ^ (i + k) = Vi + a * vb * 18446744073709551616 ^ i) (hs : s + hi * 18446744073709551616 = a * b + z + c) :
    V + (s - z) * 18446744073709551616 ^ (i + k) + hi * 18446744073709551616 ^ (i + (k + 1)) = Vi + a * (vb + b * 18446744073709551616 ^ k) * 18446744073709551616 ^ i := by
  have e1 : s = a * b + z + c - hi * 18446744073709551616 := by omega
  have e2 : (18446744073709551616 : Int) ^ (i + (k + 1)) = 18446744073709551616 ^ (i + k) * 18446744073709551616 := by rw [← Int.pow_succ]; rfl
  have e3 : (18446744073709551616 : Int) ^ (i + k) = 18446744073709551616 ^ i * 18446744073709551616 ^ k := Int.pow_add ..
  rw [e1, e2]
  rw [e3] at h ⊢
  generalize (18446744073709551616 : Int) ^ i = p at *
  generalize (18446744073709551616 : Int) ^ k = q at *
  grind
end Go.Proofs.YtplocajjfoiklaaGreatDoor

namespace Go.Proofs.YtplocajjfoiklaaGreatDoor
open Go.RowKit
attribute [local go_sem] setCell_drewN alloc_drewN

theorem mul64 (x y : Int) (hx : 0 ≤ x ∧ x ≤ 18446744073709551615) (hy : 0 ≤ y ∧ y ≤ 18446744073709551615) (w : World) :
    Calls Tryz.prog 166 #[.int .u64 x, .int .u64 y] w fun e w' => e = .returned (.tuple #[.int .u64 (x * y / 18446744073709551616), .int .u64 (x * y % 18446744073709551616)]) ∧ w' = w := by
  obtain ⟨a, rfl⟩ := Int.eq_ofNat_of_zero_le hx.1
  obtain ⟨b, rfl⟩ := Int.eq_ofNat_of_zero_le hy.1
  have h := Tryz.bits_Mul64 a b (by omega) (by omega) w
  rw [Int.natCast_ediv, Int.natCast_emod, Int.natCast_mul] at h
  exact h
theorem add64z (x y : Int) (hx : 0 ≤ x) (hy : 0 ≤ y) (w : World) : (callFunc 103 #[.int .u64 x, .int .u64 y, .int .u64 0]).run Tryz.prog w =
    .ok (.value (.tuple #[.int .u64 ((x + y) % 18446744073709551616), .int .u64 ((x + y) / 18446744073709551616)])) w := by
  simpa using add64 x y 0 hx hy (Int.le_refl 0) (by decide) w

end Go.Proofs.YtplocajjfoiklaaGreatDoor

namespace Go.Proofs.YtplocajjfoiklaaGreatDoor
open Go.RowKit
attribute [local go_sem] setCell_drewN alloc_drewN

theorem upd_words {z : Nat → Int} {p : Nat} {v : Int} (hz : Words z) (hv : 0 ≤ v ∧ v ≤ 18446744073709551615) : Words (fun j => if j = p then v else z j) := fun i => by
  show 0 ≤ (if i = p then v else z i) ∧ (if i = p then v else z i) ≤ _
  split
  · exact hv
  · exact hz i
end Go.Proofs.YtplocajjfoiklaaGreatDoor

namespace Go.Proofs.YtplocajjfoiklaaGreatDoor
open Go.RowKit

/-- a world of the class p -/
structure Wd (p : World → Prop) where
  w : World
  h : p w

theorem wp_region_wd {P : Program} (p : World → Prop) {id : Nat} {Q : Exit → Act → World → Prop} {a : Act} {w : World} {l : List Oper} (hm : P.follows .mixedOrders = true) (hB : Region.lexB .any l.toArray = true) (hp : p w.drew)
    (h : wpQuiet P l.toArray (fun w' => ∃ t : Wd p, w' = t.w) (fun a' => ∀ w', (∃ t : Wd p, w' = t.w) → Q .normal a' w') l a) : (Code.region id l.toArray true).wp P Q a w :=
  wp_region_quiet (C := fun w' => ∃ t : Wd p, w' = t.w) hm hB ⟨⟨_, hp⟩, rfl⟩ (by simpa using h)

theorem calls_wd {P : Program} {p : World → Prop} {f : FuncId} {args : Array Value} {v : Value} (t : Wd p) (hp : ∀ w w', p w → Below w.heap.size w w' → p w')
    (h : Calls P f args t.w fun e w' => e = .returned v ∧ Below t.w.heap.size t.w w') : Calls P f args t.w fun e w'' => e = .returned v ∧ ∃ t' : Wd p, w'' = t'.w :=
  h.mono fun _ w' ⟨h1, h2⟩ => ⟨h1, ⟨w', hp _ _ t.h h2⟩, rfl⟩
end Go.Proofs.YtplocajjfoiklaaGreatDoor

namespace Go.Proofs.YtplocajjfoiklaaGreatDoor
open Go.RowKit

/-- the words of x lie in block g -/
def HasN (g n : Nat) (x : Nat → Int) (w : World) : Prop := g < w.heap.size ∧ ∀ i, i < n → w.cell? ⟨g, i, none⟩ = some (.int .u64 (x i))
theorem HasN.next {g n : Nat} {x : Nat → Int} {w w' : World} (h : HasN g n x w) (hb : Below w.heap.size w w') : HasN g n x w' :=
  ⟨Nat.lt_of_lt_of_le h.1 hb.size, fun i hi => (hb.cell (p := ⟨g, i, none⟩) h.1).trans (h.2 i hi)⟩
theorem HasN.of_alloc (w : World) (cs : Array Value) (t : TypeId) (n : Nat) (x : Nat → Int) (h : ∀ i, i < n → cs[i]? = some (.int .u64 (x i))) : HasN w.heap.size n x (w.alloc (.cells cs t)) :=
  ⟨by simp, fun i hi => by rw [World.cell?_alloc_new]; exact h i hi⟩
theorem HasN.num {g n c m : Nat} {x : Nat → Int} {w : World} (h : HasN g m x w) (hx : Words x) (hn : n ≤ m) (hc : n ≤ c) (hcm : c ≤ maxLen) : Num w (some ⟨g, 0, none⟩) n c (lowW x n) :=
  ⟨hc, hcm, lowW_words hx n, fun i hi => by unfold lowW; rw [if_neg (by omega)], Or.inr ⟨g, 0, rfl, h.1, fun i hi => by rw [Nat.zero_add, h.2 i (by omega)]; unfold lowW; rw [if_pos hi]⟩⟩

/-- all the blocks of the list stand; nothing elder than the call has turned -/
def KP (w0 : World) (l : List (Nat × Nat × (Nat → Int))) (w : World) : Prop := Below w0.heap.size w0 w ∧ ∀ e ∈ l, HasN e.1 e.2.1 e.2.2 w
theorem KP.next {w0 : World} {l : List (Nat × Nat × (Nat → Int))} {w w' : World} (h : KP w0 l w) (hb : Below w.heap.size w w') : KP w0 l w' := ⟨h.1.trans (hb.mono h.1.size), fun e he => (h.2 e he).next hb⟩
theorem KP.drew {w0 : World} {l : List (Nat × Nat × (Nat → Int))} {w : World} (h : KP w0 l w) : KP w0 l w.drew := ⟨h.1.drew, h.2⟩
theorem KP.alloc {w0 : World} {l : List (Nat × Nat × (Nat → Int))} {w : World} (h : KP w0 l w) (o : Obj) : KP w0 l (w.alloc o) := h.next (below1 w o)
theorem KP.setg {w0 : World} {l : List (Nat × Nat × (Nat → Int))} {w wg : World} (h : KP w0 l w) (hg : KP w0 l wg) (i : Nat) (v : Value) : KP w0 l (w.setCell ⟨wg.heap.size, i, none⟩ v) := by
  refine ⟨h.1.setCell hg.1.size v, fun e he => ?_⟩
  have h1 := h.2 e he
  have h2 := (hg.2 e he).1
  have hb : Below (e.1 + 1) w (w.setCell ⟨wg.heap.size, i, none⟩ v) := (Below.refl _ _).setCell (by show e.1 + 1 ≤ wg.heap.size; omega) v
  exact ⟨Nat.lt_of_lt_of_le h1.1 hb.size, fun j hj => (hb.cell (p := ⟨e.1, j, none⟩) (by show e.1 < e.1 + 1; omega)).trans (h1.2 j hj)⟩
theorem KP.cons {w0 : World} {l : List (Nat × Nat × (Nat → Int))} {w : World} (h : KP w0 l w) {g n : Nat} {x : Nat → Int} (hg : HasN g n x w) : KP w0 ((g, n, x) :: l) w := ⟨h.1, fun e he => by
  rcases List.mem_cons.1 he with rfl | he
  · exact hg
  · exact h.2 e he⟩
theorem KP.at {w0 : World} {l : List (Nat × Nat × (Nat → Int))} {w : World} (h : KP w0 l w) {g n : Nat} {x : Nat → Int} (hm : (g, n, x) ∈ l) : HasN g n x w := h.2 _ hm
theorem lt_alloc' {W w3 : World} {o : Obj} {n : Nat} (hb : Below n (W.alloc o) w3) : W.heap.size < w3.heap.size := by
  have h := hb.size
  have h2 : (W.alloc o).heap.size = W.heap.size + 1 := World.size_alloc W o
  omega
theorem KP.new {w0 : World} {l : List (Nat × Nat × (Nat → Int))} {w : World} (h : KP w0 l w) (cs : Array Value) (t : TypeId) (n : Nat) (x : Nat → Int) (hc : ∀ i, i < n → cs[i]? = some (.int .u64 (x i))) : KP w0 ((w.heap.size, n, x) :: l) (w.alloc (.cells cs t)) :=
  (h.alloc _).cons (HasN.of_alloc w cs t n x hc)
/-- n cells of a block that was made some time ago, written one by one -/
def putN (w : World) (g : Nat) (x : Nat → Int) : Nat → World
  | 0 => w
  | n + 1 => (putN w g x n).setCell ⟨g, n, none⟩ (.int .u64 (x n))
theorem putN_kp {w0 : World} {l : List (Nat × Nat × (Nat → Int))} {w wg : World} (h : KP w0 l w) (hg : KP w0 l wg) (x : Nat → Int) : ∀ n, KP w0 l (putN w wg.heap.size x n)
  | 0 => h
  | n + 1 => (putN_kp h hg x n).setg hg n _
theorem putN_size (w : World) (g : Nat) (x : Nat → Int) : ∀ n, w.heap.size ≤ (putN w g x n).heap.size
  | 0 => Nat.le_refl _
  | n + 1 => Nat.le_trans (putN_size w g x n) ((Below.refl 0 _).setCell (Nat.zero_le _) _ : Below 0 _ _).size
theorem putN_cell (w : World) (g N : Nat) (x : Nat → Int) (hc : ∀ i, i < N → (w.cell? ⟨g, i, none⟩).isSome = true) : ∀ n, n ≤ N → ∀ i, i < N → (putN w g x n).cell? ⟨g, i, none⟩ = if i < n then some (.int .u64 (x i)) else w.cell? ⟨g, i, none⟩
  | 0, _, i, _ => by rw [if_neg (by omega)]; rfl
  | n + 1, hn, i, hi => by
    have ih := putN_cell w g N x hc n (by omega)
    show ((putN w g x n).setCell ⟨g, n, none⟩ (.int .u64 (x n))).cell? ⟨g, i, none⟩ = _
    by_cases e : i = n
    · subst e
      rw [if_pos (by omega)]
      have := ih i hi
      rw [if_neg (by omega)] at this
      exact World.cell?_setCell_same' _ _ _ (by rw [this]; exact hc i hi)
    · have hne : (⟨g, n, none⟩ : Addr) ≠ ⟨g, i, none⟩ := by intro h; injection h with h1 h2; exact e h2.symm
      refine Eq.trans (World.cell?_setCell_other (h := hne) ..) ?_
      rw [ih i hi]
      by_cases e2 : i < n
      · rw [if_pos e2, if_pos (by omega)]
      · rw [if_neg e2, if_neg (by omega)]
theorem KP.put {w0 : World} {l : List (Nat × Nat × (Nat → Int))} {w wg : World} (h : KP w0 l w) (hg : KP w0 l wg) (hlt : wg.heap.size < w.heap.size) (x : Nat → Int) (n : Nat) (hc : ∀ i, i < n → (w.cell? ⟨wg.heap.size, i, none⟩).isSome = true) : KP w0 ((wg.heap.size, n, x) :: l) (putN w wg.heap.size x n) :=
  (putN_kp h hg x n).cons ⟨Nat.lt_of_lt_of_le hlt (putN_size w _ x n), fun i hi => by rw [putN_cell w wg.heap.size n x hc n (Nat.le_refl _) i hi, if_pos hi]⟩
end Go.Proofs.YtplocajjfoiklaaGreatDoor

namespace Go.Proofs.YtplocajjfoiklaaGreatDoor
open Go.RowKit

set_option maxHeartbeats 400000 in
theorem bare_any (a : Option Addr) (n c : Nat) (x : Nat → Int) (w : World) (hn : n < 4294967296) (h : Num w a n c x) :
    Calls Tryz.prog 129 #[.slice a n c] w fun e w' => e = .returned (.slice a (sizeL x n) c) ∧ w = w' := by
  obtain ⟨h1, h2, h3, h4, h5⟩ := h
  rcases h5 with ⟨rfl, rfl⟩ | ⟨b, off, rfl, hbs, hc⟩
  · obtain rfl : n = 0 := by omega
    go_enter Tryz.func129, Tryz.ntmps129
    go_wp2
    go_loop [3] (fun t => t = .int .i64 0) (fun t => (intOf t).toNat)
    case atStart => rfl
    case round =>
      subst hrel
      go_wp2
      go_ret
      exact ⟨rfl, rfl⟩
  · unfold maxLen at h2
    clear h3 h4
    go_enter Tryz.func129, Tryz.ntmps129
    go_wp2
    go_loop [3] (fun t => ∃ k : Nat, k ≤ n ∧ sizeL x k = sizeL x n ∧ t = .int .i64 k) (fun t => (intOf t).toNat)
    case atStart => exact ⟨n, Nat.le_refl _, rfl, rfl⟩
    case round =>
      obtain ⟨k, hk, hs, rfl⟩ := hrel
      by_cases h0 : k = 0
      · subst h0
        have HS : Hid (sizeL x n = 0) := hs.symm
        clear hs hc
        go_wp2
        go_ret
        exact ⟨by rw [HS.out]; rfl, rfl⟩
      · obtain ⟨j, rfl⟩ : ∃ j, k = j + 1 := ⟨k - 1, by omega⟩
        have hcj := hc j (by omega)
        by_cases hzj : x j = 0
        · have HS : Hid (sizeL x j = sizeL x n) := by
            have : sizeL x (j + 1) = sizeL x j := by simp [sizeL, hzj]
            exact this.symm.trans hs
          clear hs hc
          go_wp2
          go_round
          case rel => exact ⟨j, by omega, HS.out, by go_num⟩
          case measure => simp [intOf]
        · have HS : Hid (sizeL x n = j + 1) := by
            have : sizeL x (j + 1) = j + 1 := by simp [sizeL, hzj]
            exact hs.symm.trans this
          clear hs hc
          go_wp2
          go_ret
          exact ⟨by rw [HS.out]; rfl, rfl⟩

theorem sizeL_zero {x : Nat → Int} : ∀ n, (∀ i, n ≤ i → x i = 0) → ∀ i, sizeL x n ≤ i → x i = 0
  | 0, h, i, _ => h i (Nat.zero_le _)
  | n + 1, h, i, hi => by
    by_cases hz : x n = 0
    · rw [show sizeL x (n + 1) = sizeL x n by simp [sizeL, hz]] at hi
      exact sizeL_zero n (fun j hj => if e : j = n then e ▸ hz else h j (by omega)) i hi
    · rw [show sizeL x (n + 1) = n + 1 by simp [sizeL, hz]] at hi
      exact h i hi
theorem sizeL_top {x : Nat → Int} : ∀ n, 0 < sizeL x n → x (sizeL x n - 1) ≠ 0
  | 0, h => by simp [sizeL] at h
  | n + 1, h => by
    by_cases hz : x n = 0
    · rw [show sizeL x (n + 1) = sizeL x n by simp [sizeL, hz]] at h ⊢
      exact sizeL_top n h
    · rw [show sizeL x (n + 1) = n + 1 by simp [sizeL, hz]]
      exact hz
theorem sizeL_sizeL (x : Nat → Int) : ∀ n, sizeL x (sizeL x n) = sizeL x n
  | 0 => rfl
  | n + 1 => by
    by_cases hz : x n = 0
    · rw [show sizeL x (n + 1) = sizeL x n by simp [sizeL, hz]]; exact sizeL_sizeL x n
    · have : sizeL x (n + 1) = n + 1 := by simp [sizeL, hz]
      rw [this]; exact this
theorem Num.bare {w : World} {a : Option Addr} {n c : Nat} {x : Nat → Int} (h : Num w a n c x) : Num w a (sizeL x n) c x := by
  obtain ⟨h1, h2, h3, h4, h5⟩ := h
  have hle := sizeL_le x n
  refine ⟨by omega, h2, h3, sizeL_zero n h4, ?_⟩
  rcases h5 with ⟨h, h'⟩ | ⟨b, off, h, hb, hc⟩
  · exact Or.inl ⟨h, h'⟩
  · exact Or.inr ⟨b, off, h, hb, fun i hi => hc i (by omega)⟩
theorem setRow_new (w : World) (cs ds : Array Value) (t : TypeId) : (w.alloc (.cells cs t)).setRow w.heap.size ds = w.alloc (.cells ds t) := World.setRow_alloc_new w cs ds t
theorem wl_get (x : Nat → Int) (k j : Nat) (v : Value) (h : (wl x k)[j]? = some v) : j < k ∧ v = .int .u64 (x j) := by
  have hj : j < k := by
    rcases Nat.lt_or_ge j k with h' | h'
    · exact h'
    · rw [List.getElem?_eq_none (by simpa [wl] using h')] at h; cases h
  refine ⟨hj, ?_⟩
  simpa [wl, hj] using h.symm
theorem copy_num {w : World} {a : Option Addr} {k c N C : Nat} {x : Nat → Int} (ty : TypeId) (h : Num w a k c x) (hN : k ≤ N) :
    (Builtin.copy_ #[49, 49] ty #[.slice (some ⟨w.heap.size, 0, none⟩) N C, .slice a k c]).run Tryz.prog (w.alloc (.cells (arrOf (fun _ => 0) N) 22)) = .ok (goInt k) (w.alloc (.cells (arrOf x N) 22)) := by
  obtain ⟨h1, h2, h3, h4, h5⟩ := h
  have hsz : (Tryz.prog.info? 22).map (·.size) = some 1 := by kernel_rfl
  rcases h5 with ⟨rfl, rfl⟩ | ⟨b, off, rfl, hb, hc⟩
  · obtain rfl : k = 0 := by omega
    rw [run_copy_none _ 49 49 ty 22 _ _ _ _ _ _ Tryz.underlying49 hsz (by simp)]
    have : arrOf (fun _ => 0) N = arrOf x N := arrOf_congr fun i _ => (h4 i (Nat.zero_le _)).symm
    rw [this]; rfl
  · have hl : (wl x k).length = k := by simp [wl]
    rw [run_copy_row _ _ 49 49 ty 22 w.heap.size 0 N C ⟨b, off, none⟩ k c (arrOf (fun _ => 0) N) 22 (wl x k) Tryz.underlying49 hsz (MapKept.heap_alloc w _).1 (by rw [hl]; exact (Nat.min_eq_left hN).symm) ?_ (by rw [hl, arrOf_size]; omega) ?_]
    · rw [hl, setRow_new]
      have : ((arrOf (fun _ => 0) N).toList.take 0 ++ wl x k ++ (arrOf (fun _ => 0) N).toList.drop (0 + k)).toArray = arrOf x N := by
        apply arrOf_of
        · simp [wl, arrOf]; omega
        · intro i hi
          by_cases hik : i < k
          · simp [wl, arrOf, List.getElem?_append, hik]
          · simp [wl, arrOf, List.getElem?_append, hik]
            rw [h4 i (by omega)]
            have : k + (i - k) = i := by omega
            simp [this, hi]
      rw [this]
    · intro j v hj
      obtain ⟨hjk, rfl⟩ := wl_get x k j v hj
      have ea : (⟨b, off, none⟩ : Addr).add j = ⟨b, off + j, none⟩ := by simp [Addr.add]
      rw [ea]
      exact ((below1 w _).cell (p := ⟨b, off + j, none⟩) hb).trans (hc j hjk)
    · intro v hv
      obtain ⟨q, _, rfl⟩ := List.mem_map.1 hv
      rfl

set_option maxHeartbeats 1000000 in
theorem ntrim_any (a : Option Addr) (n c : Nat) (x : Nat → Int) (w : World) (hn : n < 4294967296) (h : Num w a n c x) :
    Calls Tryz.prog 135 #[.slice a n c] w fun e w' => e = .returned (.slice (some ⟨w.heap.size, 0, none⟩) (sizeL x n) (sizeL x n)) ∧ w.alloc (.cells (arrOf x (sizeL x n)) 22) = w' := by
  have hb := bare_any a n c x w hn h
  have hle := sizeL_le x n
  have hmk := fun w => make_any (sizeL x n : Int) (sizeL x n) rfl (by omega) w
  have hcp := fun ty => copy_num (N := sizeL x n) (C := sizeL x n) ty h.bare (Nat.le_refl _)
  clear h
  generalize sizeL x n = s at *
  go_enter Tryz.func135, Tryz.ntmps135
  go_wp2_with (go_at_call 129; refine hb.mono ?_; rintro e w' ⟨rfl, rfl⟩)
  go_ret
  exact ⟨rfl, rfl⟩
end Go.Proofs.YtplocajjfoiklaaGreatDoor
