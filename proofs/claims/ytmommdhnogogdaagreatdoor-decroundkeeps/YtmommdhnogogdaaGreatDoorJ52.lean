/-
  Texts that the proof leans on, joined: Kd, Ut, Uv, Ej, Lift, Lfw, Lfd, Lt, Lfn.
-/
import Derived.Test.YtmommdhnogogdaaGreatDoorJ13
import Derived.Lib.TrimByte
import Derived.Lib.ItoaLen
import Derived.Test.YtmommdhnogogdaaGreatDoorJ17
import Derived.Test.YtmommdhnogogdaaGreatDoorJ19
import Derived.Test.YtmommdhnogogdaaGreatDoorJ20
import Derived.Test.YtmommdhnogogdaaGreatDoorJ42
import Derived.Test.YtmommdhnogogdaaGreatDoorJ50
import Derived.Test.YtmommdhnogogdaaGreatDoorJ46
import Derived.Test.YtmommdhnogogdaaGreatDoorJ22
import Derived.Test.YtmommdhnogogdaaGreatDoorJ31
import Derived.Test.YtmommdhnogogdaaGreatDoorJ48
import Derived.Test.YtmommdhnogogdaaGreatDoorJ51
import Derived.Test.YtmommdhnogogdaaGreatDoorJ32
import Derived.ProofKit
import Derived.OpenShut
import Derived.Carry
import Derived.Deep.DeepHandedRow
import Derived.Test.YtmommdhnogogdaaGreatDoorJ2
import Derived.Test.YtmommdhnogogdaaGreatDoorRows
import Derived.LaidLaws
set_option linter.unusedVariables false
set_option linter.unusedSectionVars false
set_option linter.unusedSimpArgs false
set_option maxRecDepth 20000
namespace Go.Proofs.YtmommdhnogogdaaGreatDoor
open Go.RowKit

/-- a number in a list of words, or nothing, which is 0 -/
def NO (K X : Nat) (v : Value) (w : World) : Prop := (v = .slice none 0 0 ∧ X = 0) ∨ NT K X v w
theorem NO.next {K X : Nat} {v : Value} {w w' : World} (h : NO K X v w) (hb : Below w.heap.size w w') : NO K X v w' := by
  rcases h with h | h
  · exact Or.inl h
  · exact Or.inr (h.next hb)
theorem NO.more {K K' X : Nat} {v : Value} {w : World} (h : NO K X v w) (hk : K ≤ K') : NO K' X v w := by
  rcases h with h | h
  · exact Or.inl h
  · exact Or.inr (h.more hk)
theorem NO.nt {K X : Nat} {v : Value} {w : World} (h : NO K X v w) : Nt K X v w := by
  rcases h with ⟨rfl, rfl⟩ | h
  · exact ⟨none, 0, 0, fun _ => 0, rfl, Nat.zero_le _, ⟨Nat.le_refl _, by unfold maxLen; omega, fun _ => ⟨Int.le_refl _, show (0 : Int) ≤ _ by decide⟩, fun _ _ => rfl, Or.inl ⟨rfl, rfl⟩⟩, rfl⟩
  · obtain ⟨g, k, cap, z, h1, h2, h3, h4, _⟩ := h
    exact ⟨_, k, cap, z, h1, h2, h3, h4⟩
end Go.Proofs.YtmommdhnogogdaaGreatDoor

namespace Go.Proofs.YtmommdhnogogdaaGreatDoor
open Go.RowKit
/-- a datum's coefficient, scaled by its exponent -/
theorem scale_d {k : Nat} {x : Int} (hk : bl k ≤ 1000) (hx : -20000 ≤ x ∧ x ≤ 20000) (W : World) (u v : Value) (hu : NT 7000 k u W) (hv : NT 7000 1 v W) :
    Calls Tryz.prog 12 #[u, v, .int .u64 10, .int .i64 x] W fun e w' => ∃ p q, e = .returned (.tuple #[p, q]) ∧ NT 7000 (k * 10 ^ x.toNat) p w' ∧ NT 7000 (10 ^ (-x).toNat) q w' ∧ Below W.heap.size W w' := by
  have c := rscaleT (N := k) (D := 1) x (by omega) hu hv (by omega) (bl_le.2 (by decide : (1 : Nat) < 2 ^ 1) |> fun h => Nat.le_trans h (by decide))
  rw [Nat.one_mul] at c
  exact c
theorem nat_d (k : Nat) (hk : k < 2 ^ 256) (W : World) : Calls Tryz.prog 13 #[A4 k] W fun e w' => ∃ v, e = .returned v ∧ NT 7000 k v w' ∧ Below W.heap.size W w' := by
  refine (rnat13 k W hk).mono ?_
  rintro r w' ⟨g, m, cap, rfl, _, hn, hb⟩
  exact ⟨_, rfl, hn.more (by decide), hb⟩
theorem coef_256 {f : DF} (hf : f.ok) {k : Nat} (h : k < 10 ^ (3 * f.j + 1)) : k < 2 ^ 256 ∧ bl k ≤ 1000 := by
  obtain ⟨m0, m1, l0, l1, lm, j0, j1⟩ := ok_m hf
  have e : (10 : Nat) ^ (3 * f.j + 1) ≤ 10 ^ 34 := Nat.pow_le_pow_right (by decide) (by omega)
  have e2 : (10 : Nat) ^ 34 < 2 ^ 256 := by decide
  have h1 : k < 2 ^ 256 := by omega
  exact ⟨h1, Nat.le_trans (bl_le.2 h1) (by decide)⟩
end Go.Proofs.YtmommdhnogogdaaGreatDoor

namespace Go.Proofs.YtmommdhnogogdaaGreatDoor
open Go.RowKit
theorem rq_cohort {n d y : Int} {v : Dat} (h : decN n) (hd : knB d) (hv : vI (fD n) v) (hc : v.c = 1) (hk0 : v.k ≠ 0) :
    rqE n d v.k 1 = 0 ∧ ∃ (k' : Nat) (x' : Int), rqD n d v.s v.k 1 v.x y = ⟨1, v.s, false, x', k'⟩ ∧ rqF n d v.s v.k 1 v.x = 0 ∧ (fD n).l ≤ x' ∧ x' ≤ (fD n).m ∧ k' < 10 ^ (3 * (fD n).j + 1) ∧ 0 < k' ∧ k' * 10 ^ (x' - v.x).toNat = v.k * 10 ^ (v.x - x').toNat ∧ (x' < y → x' < (fD n).m → k' % 10 ≠ 0) ∧ (y < x' → (fD n).l < x' → 10 ^ (3 * (fD n).j + 1) ≤ k' * 10) := by
  obtain ⟨m0, m1, l0, l1, lm, j0, j1⟩ := ok_m (fD_ok n)
  have e0 := (rq_keep h hd hv hc).1
  obtain ⟨c, s, g, x, k⟩ := v
  simp only at hc hk0 e0 ⊢
  subst hc
  have hv' : k < 10 ^ (3 * (fD n).j + 1) ∧ (fD n).l ≤ x ∧ x ≤ (fD n).m := by
    rcases hv with ⟨_, a, b, c, e⟩ | ⟨a, _⟩ | ⟨a, _⟩
    · exact ⟨b, c, e⟩
    · exact absurd (show (1 : Int) = 2 from a) (by decide)
    · exact absurd (show (1 : Int) = 3 from a) (by decide)
  obtain ⟨hk, hx0, hx1⟩ := hv'
  refine ⟨e0, ?_⟩
  unfold rqD rqF
  rw [if_pos e0, if_pos e0, if_neg hk0, if_neg hk0, show clT x = x by unfold clT; omega, Nat.one_mul]
  have hp := Nat.pos_of_ne_zero hk0
  exact dk_cohort (fD_ok n) d s hp hk hx0 hx1 (tnX_is (Nat.mul_pos hp (ten_pos _)) (ten_pos _))
theorem rsame_ntE {K K' V V' : Nat} {v v' : Value} {w : World} (h : NT K V v w) (h' : NT K' V' v' w) (e : V = V') (hK : K < 1000000) (hK' : K' < 1000000) :
    Calls Tryz.prog 14 #[v, v'] w fun e w' => e = .returned (.bool true) ∧ w = w' := by
  obtain ⟨g, k, c, z, rfl, hk, hN, hz, _⟩ := h
  obtain ⟨g', k', c', z', rfl, hk', hN', hz', _⟩ := h'
  exact rsame_any _ _ k c k' c' z z' w (by omega) (by omega) hN hN' (by rw [hz, hz', e])
/-- a number that isn't 0 has words -/
theorem NT.some {K V : Nat} {v : Value} {w : World} (h : NT K V v w) : ∃ a k c, v = .slice a k c ∧ (V ≠ 0 → (0 : Int) < (k : Int)) := by
  obtain ⟨g, k, c, z, rfl, hk, hN, hz, _⟩ := h
  refine ⟨_, k, c, rfl, fun hV => ?_⟩
  rcases Nat.eq_zero_or_pos k with e | e
  · subst e
    have : val z 0 = 0 := rfl
    rw [this] at hz
    exact absurd (by omega : V = 0) hV
  · omega
theorem W4_not {k : Nat} (hk : k < 2 ^ 256) (h0 : k ≠ 0) : decide (W4 k 0 = 0 ∧ W4 k 1 = 0 ∧ W4 k 2 = 0 ∧ W4 k 3 = 0) = false := by
  refine decide_eq_false fun q => h0 (A4_inj hk (by decide) fun i hi => ?_)
  rw [W4_zero]
  rcases (show i = 0 ∨ i = 1 ∨ i = 2 ∨ i = 3 by omega) with e | e | e | e <;> subst e
  · exact q.1
  · exact q.2.1
  · exact q.2.2.1
  · exact q.2.2.2
theorem members15_v {TT : World → Prop} (h : DrdC TT) (n d y : Int) (B : Nat) (w : World) (hT : TT w) (i1 : i6 n) (i2 : i6 d) (i4 : i6 y) (hB : B < 2 ^ 256) :
    Calls Tryz.prog 4 #[.int .i64 n, .int .i64 d, A4 B, .int .i64 y] w fun r w' => r = .returned (.bool true) ∧ Below w.heap.size w w' := by
  have c13 := fun W => rdir_any d W
  by_cases hd : knB d
  · rw [decide_eq_true hd] at c13
    have c12 := fun W => runp14 n B W hB
    rcases vUE_ways n B with ⟨e1, e2, e3⟩ | e
    · by_cases hc : (vUD n B).c = 1
      · by_cases hk0 : (vUD n B).k = 0
        · refine dmem_z TT h.next n d y B w hT h.awk c13 _ _ _ _ _ _ _ c12 e1 hc ?_
          rw [hk0]
          simp only [W4_zero, and_self, decide_true]
        · have hi : vI (fD n) (vUD n B) := by rw [e3]; exact vM_is (fD_ok n) B
          have huk := vUD_256 n B
          obtain ⟨r1, k', x', r2, r3, r4, r5, r6, r7, r8, r9, r10⟩ := rq_cohort (y := y) e2.1 hd hi hc hk0
          obtain ⟨m0, m1, l0, l1, lm, j0, j1⟩ := ok_m (fD_ok n)
          have fx : (vUD n B).k < 10 ^ (3 * (fD n).j + 1) ∧ (fD n).l ≤ (vUD n B).x ∧ (vUD n B).x ≤ (fD n).m := by
            rcases hi with ⟨_, _, a, b, c⟩ | ⟨a, _⟩ | ⟨a, _⟩
            · exact ⟨a, b, c⟩
            · rw [hc] at a; exact absurd a (by decide)
            · rw [hc] at a; exact absurd a (by decide)
          have cO := fun W => rof_dec e2.1 W
          have cD : ∀ W v v', TT W → Nt 4 (vUD n B).k v W → Nt 1 1 v' W → Calls Tryz.prog 11 #[.int .i64 n, .int .i64 d, .bool (vUD n B).s, v, v', .int .i64 (vUD n B).x, .int .i64 y] W fun r w' => r = .returned (.tuple #[DV 1 (vUD n B).s false x' k', .int .i64 0, .int .i64 0]) ∧ Below W.heap.size W w' := by
            intro W v v' hW hv hv'
            have c := h.dec n d (vUD n B).x y (vUD n B).s (vUD n B).k 1 v v' W i1 i2 (by unfold i6; omega) i4 hW (hv.wide (by decide)) (hv'.wide (by decide))
            rw [r1, r2, r3] at c
            exact c
          generalize vUD n B = u at *
          obtain ⟨ka1, ka2⟩ := coef_256 (fD_ok n) r6
          obtain ⟨kb1, kb2⟩ := coef_256 (fD_ok n) fx.1
          have k10 : k' * 10 < 2 ^ 256 := by
            have e : (10 : Nat) ^ (3 * (fD n).j + 1) ≤ 10 ^ 34 := Nat.pow_le_pow_right (by decide) (by omega)
            have e2 : (10 : Nat) ^ 34 * 10 < 2 ^ 256 := by decide
            omega
          have ep : ((3 * (fD n).j + 1 : Nat) : Int) = 3 * ((fD n).j : Int) + 1 := by omega
          refine dmem_k TT h.next n d y B w hT h.awk c13 _ _ _ _ _ _ _ c12 e1 hc huk (W4_not huk hk0) _ _ _ _ _ _ _ _ x' (x' - u.x) k' (k' * 10 ^ (x' - u.x).toNat) (10 ^ (-(x' - u.x)).toNat) (u.k * 10 ^ (-(x' - u.x)).toNat) (k' * 10) rfl (by omega) (by omega) cO cD (nat_d k' ka1) (scale_d ka2 (by omega)) (nat_d u.k kb1) (fun W a b ha hb => ?_) (fun W a b ha hb => rsame_ntE ha hb (by rw [show -(x' - u.x) = u.x - x' by omega]; exact r8) (by decide) (by decide)) (fun W a b ha hb => ?_) (fun W a b ha hb => ?_) (fun W a ha => bits_nv ha.nv) ?_
          · refine (rtimes_nt (by decide) (by decide) ha.nv hb.nv).mono ?_
            rintro r w' ⟨p, rfl, hp, hb⟩
            exact ⟨p, rfl, hp.more (by decide), hb⟩
          · refine (rovert_nt (K := 7000) (by decide) ha hb (by decide)).mono ?_
            rintro r w' ⟨q, r, rfl, hq, hr, hb⟩
            obtain ⟨ar, kr, cr, rfl, hs⟩ := hr.some
            exact ⟨q, ar, kr, cr, rfl, fun q1 q2 => hs (r9 q1 q2), hb⟩
          · refine (rtimes_nt (by decide) (by decide) ha.nv hb.nv).mono ?_
            rintro r w' ⟨p, rfl, hp, hb⟩
            exact ⟨p, rfl, hp.fitU (Nat.le_trans (bl_le.2 k10) (by decide)), hb⟩
          · intro q1 q2 W
            have c := rbelowt (k' * 10) (3 * (fD n).j + 1) W k10 (by omega)
            rw [decide_eq_false (by have := r10 q1 q2; omega), ep] at c
            exact c
      · exact dmem_c TT h.next n d y B w hT h.awk c13 _ _ _ _ _ _ _ c12 e1 (by simpa using hc)
    · exact dmem_g TT h.next n d y B w hT h.awk c13 _ _ _ _ _ _ _ c12 e
  · rw [decide_eq_false hd] at c13
    exact dmem_d TT h.next n d y B w hT h.awk c13
end Go.Proofs.YtmommdhnogogdaaGreatDoor

namespace Go.Proofs.YtmommdhnogogdaaGreatDoor
open Go.RowKit
theorem drdK : DrdK Tab where
  keep := fun n d x s N vn W _ _ _ hT hn => drk_v hT hn
theorem decroundKeeps_any (n d : Int) (B : Nat) (an : Option Addr) (kn cn : Nat) (zn : Nat → Int) (x : Int) (w : World) (hT : Tab w) (i1 : i6 n) (i2 : i6 d) (hB : B < 2 ^ 256) (hn : Num w an kn cn zn) (i3 : i6 x) :
    Calls Tryz.prog 3 #[.int .i64 n, .int .i64 d, A4 B, .slice an kn cn, .int .i64 x] w fun r w' => r = .returned (.bool true) ∧ Below w.heap.size w w' :=
  keeps15_v drdC drdK n d x B an kn cn zn w hT i1 i2 i3 hn hB
theorem decroundMembers_any (n d : Int) (B : Nat) (y : Int) (w : World) (hT : Tab w) (i1 : i6 n) (i2 : i6 d) (hB : B < 2 ^ 256) (i4 : i6 y) :
    Calls Tryz.prog 4 #[.int .i64 n, .int .i64 d, A4 B, .int .i64 y] w fun r w' => r = .returned (.bool true) ∧ Below w.heap.size w w' :=
  members15_v drdC n d y B w hT i1 i2 i4 hB
end Go.Proofs.YtmommdhnogogdaaGreatDoor

namespace Go.Proofs.YtmommdhnogogdaaGreatDoor
open Go.ChangeShapes Go.WideShapes Go.ChangeAt Go.RowKit

theorem Tryz.own : ownKnob Tryz.prog.godebug = none := by kernel_rfl
theorem Tryz.laidOut : laidOutB Tryz.prog = true := by kernel_rfl
def tabCells : Array Value := ((List.range 12).flatMap fun i => (List.range 4).map fun k => rowV i k).toArray
def layCells (c : Array Value) : Obj → Obj
  | .cells _ t frozen => .cells c t frozen
  | o => o
end Go.Proofs.YtmommdhnogogdaaGreatDoor

set_option maxRecDepth 100000
set_option maxRecDepth 20000
namespace Go.Proofs.YtmommdhnogogdaaGreatDoor
open Go.ChangeShapes Go.WideShapes Go.ChangeAt Go.RowKit

theorem Tryz.cells22 : Tryz.prog.cellsOf 22 = 1 := by kernel_rfl
section
variable {H : Type} {enc : TypeId × Value → H} {W : World} {r : Reach} {base b : Nat} {sp : Nat → Bool} {held : Bool} {t : TypeId} {n : Nat} {v : Value} {d : DataW H} {p : List MemPlace}
theorem open_words (ht : Tryz.prog.underlying t = some (.array n 22)) (hc : Tryz.prog.cellsOf t = n) (hok : Value.okWide Tryz.prog W r base t v) (h : DataW.Trod enc Tryz.prog W b sp held t v d p) :
    ∃ x, Words x ∧ v = .agg (arrOf x n) ∧ p = [] := by
  have ho : ∃ cs, v = .agg cs ∧ cs.size = n := by
    simp only [Value.okWide, ht] at hok
    obtain ⟨cs, h1, h2, _⟩ := hok
    exact ⟨cs, h1, by rw [h2, hc]⟩
  obtain ⟨cs, rfl, hcs⟩ := ho
  obtain ⟨fuel, hf⟩ := h
  obtain ⟨xs, m, rfl, hx, hl, hlen, hi⟩ := DataW.trod_array ht hf
  have hcell : ∀ i, i < n → ∃ z, cs[i]? = some (.int .u64 z) ∧ xs[i]? = some (.lit (.int .u64 z), []) ∧ (0 ≤ z ∧ z ≤ 18446744073709551615) := by
    intro i hin
    have h1 := hi i hin
    rw [Tryz.cells22] at h1
    have hix : i < xs.length := by omega
    rw [List.getElem?_eq_getElem hix] at h1
    obtain ⟨z, hz, hxz, hw⟩ := DataW.trod_int Tryz.underlying22 h1
    refine ⟨z, ?_, ?_, bounds_u64 hw⟩
    · have hic : i < cs.size := by omega
      have : ((Value.agg cs).cells.toList.drop (i * 1)).take 1 = [cs[i]] := by
        simp [Value.cells, List.take_one, List.head?_drop, hic]
      rw [this] at hz
      rw [Array.getElem?_eq_getElem hic]
      simpa using hz
    · rw [List.getElem?_eq_getElem hix, hxz]
  refine ⟨fun i => match cs[i]? with | some (.int .u64 z) => (if i < n then z else 0) | _ => 0, ?_, ?_, ?_⟩
  · intro i
    by_cases hin : i < n
    · obtain ⟨z, h1, _, h3⟩ := hcell i hin
      simp only [h1, if_pos hin]; exact h3
    · have : cs[i]? = none := by simp; omega
      simp only [this]; omega
  · congr 1
    refine arrOf_of cs n _ hcs fun i hin => ?_
    obtain ⟨z, h1, _, _⟩ := hcell i hin
    simp only [h1, if_pos hin]
  · have : p = xs.flatMap (·.2) := by
      have := congrArg Prod.snd hx; simpa using this
    rw [this]
    simp only [List.flatMap_eq_nil_iff]
    intro y hy
    obtain ⟨i, hin, rfl⟩ := List.getElem_of_mem hy
    obtain ⟨z, _, h2, _⟩ := hcell i (by omega)
    rw [List.getElem?_eq_getElem hin] at h2
    rw [Option.some.inj h2]
end
end Go.Proofs.YtmommdhnogogdaaGreatDoor

set_option maxRecDepth 100000
namespace Go.Proofs.YtmommdhnogogdaaGreatDoor
open Go.ChangeShapes Go.WideShapes Go.ChangeAt Go.RowKit

section
variable {H : Type} {enc : TypeId × Value → H} {W : World} {r : Reach} {base b : Nat} {sp : Nat → Bool} {held : Bool} {t : TypeId} {n : Nat} {v : Value} {d : DataW H} {p : List MemPlace}
theorem open_bits (hok : Value.okWide Tryz.prog W r base 24 v) (h : DataW.Trod enc Tryz.prog W b sp held 24 v d p) : ∃ A, A < 2 ^ 256 ∧ v = A4 A ∧ p = [] := by
  obtain ⟨x, hx, rfl, hp⟩ := open_words Tryz.underlying24 (by kernel_rfl) hok h
  obtain ⟨A, hA, he, _⟩ := words_A4 hx
  exact ⟨A, hA, he, hp⟩
theorem bits_stay {W' : World} {sp' : Nat → Bool} (h : DataW.Trod enc Tryz.prog W 0 (fun _ => true) true 24 v d []) : DataW.Trod enc Tryz.prog W' 0 sp' true 24 v d [] :=
  WideElems.Trod_stays Tryz.laidOut (by kernel_rfl) (of_decide_eq_true (by kernel_rfl)) h (by simp) (by simp)
end
end Go.Proofs.YtmommdhnogogdaaGreatDoor

namespace Go.Proofs.YtmommdhnogogdaaGreatDoor
open Go.ChangeShapes Go.WideShapes Go.ChangeAt Go.RowKit
/-- Go's tables, as cells -/
def fst3Cells : Array Value := (((List.replicate 128 240 ++ List.replicate 66 241 ++ List.replicate 30 2 ++ [19] ++ List.replicate 12 3 ++ [35] ++ List.replicate 2 3 ++ [52] ++ List.replicate 3 4 ++ [68] ++ List.replicate 11 241 : List Int)).map fun n => Value.int .u8 n).toArray
def rng3Cells : Array Value := ((([128, 191, 160, 191, 128, 159, 144, 191, 128, 143] ++ List.replicate 22 0 : List Int)).map fun n => Value.int .u8 n).toArray
noncomputable def laidWorld3 (os : Os) : World :=
  { World.holding Tryz.prog os ⟨#[], #[], []⟩ with heap := (((World.holding Tryz.prog os ⟨#[], #[], []⟩).heap.modify 0 (layCells tabCells)).modify 3 (layCells fst3Cells)).modify 4 (layCells rng3Cells) }
theorem laid_tl3 {P : Program} {W : World} {x : String × DataW Unit} {r : List (String × DataW Unit)} (h : laidMet P (x :: r) W) : laidMet P r W := by
  obtain ⟨ps, ⟨g, t, cs, fuel, p, q, _, _, _, _, hr, rfl⟩, hn, hc⟩ := h
  refine ⟨q, hr, ?_, fun b off hm => hc b off (by simp [hm])⟩
  exact (List.nodup_append.1 hn).2.1
theorem tab_of_list3 {W : World} {x0 : String × DataW Unit} {r : List (String × DataW Unit)} (h : laidMet Tryz.prog (x0 :: ("caliper/desc.rows", Rows.laid_caliper_desc_rows) :: r) W) : Tab W :=
  tab_of_laid (laid_tl3 h)
end Go.Proofs.YtmommdhnogogdaaGreatDoor

set_option maxRecDepth 20000
namespace Go.Proofs.YtmommdhnogogdaaGreatDoor
open Go.ChangeShapes Go.WideShapes Go.ChangeAt Go.RowKit

theorem Tryz.rec25 : Tryz.prog.readableRec 25 = true := by kernel_rfl
theorem Tryz.row25 : (25 : TypeId) < Tryz.prog.types.size := of_decide_eq_true (by kernel_rfl)
section
variable {H : Type} {enc : TypeId × Value → H} {W : World} {r : Reach} {base : Nat} {v : Value} {d : DataW H} {p : List MemPlace}
def lenW (zs : List Int) (len i : Nat) : Int := if i < len then zs.getD i 0 else 0
theorem open_nat (hok : Value.okWide Tryz.prog W r base 25 v) (h : DataW.Trod enc Tryz.prog W 0 (fun _ => true) true 25 v d p) : ∃ a n c x, v = .slice a n c ∧ Num W a n c x := by
  obtain ⟨a0, len0, cap0, rfl⟩ := okWide_slice Tryz.underlying25 hok
  obtain ⟨fuel, hf⟩ := h
  rcases open_ints Tryz.underlying25 Tryz.underlying22 Tryz.cells22 hf with ⟨h1, _⟩ | ⟨a, len, cap, zs, h1, hb, hl, hm, hz, hx, hc, hw⟩
  · cases (List.cons.inj (show [Value.slice a0 len0 cap0] = [.slice none 0 0] from h1)).1
    exact ⟨none, 0, 0, fun _ => 0, rfl, Nat.le_refl _, by unfold maxLen; omega, fun _ => (by decide : (0 : Int) ≤ 0 ∧ (0 : Int) ≤ 18446744073709551615), fun _ _ => rfl, Or.inl ⟨rfl, rfl⟩⟩
  · cases (List.cons.inj (show [Value.slice a0 len0 cap0] = [.slice (some a) len cap] from h1)).1
    simp only [if_true] at hz
    have hh : a.spot = none ∧ a.block < W.heap.size := by
      simp only [Value.okWide, Tryz.underlying25, Cell.okWide, Cell.ok] at hok
      obtain ⟨_, _, hh⟩ := hok
      obtain ⟨_, h2, row, cells, h3, _⟩ := hh
      refine ⟨h2, ?_⟩
      rcases Nat.lt_or_ge a.block W.heap.size with h' | h'
      · exact h'
      · unfold World.shape? at h3; rw [Array.getElem?_eq_none h'] at h3; cases h3
    obtain ⟨b, off, spot⟩ := a
    obtain ⟨h2, h3⟩ := hh
    simp only at h2 h3
    subst h2
    refine ⟨some ⟨b, off, none⟩, len0, cap0, lenW zs len0, rfl, hl, hm, ?_, fun i hi => if_neg (by omega), Or.inr ⟨b, off, rfl, h3, fun i hi => ?_⟩⟩
    · intro i
      unfold lenW
      split
      · have := range_u64 hw i
        simpa [List.getD] using this
      · decide
    · have := hc i (by omega)
      rw [show (⟨b, off, none⟩ : Addr).add i = ⟨b, off + i, none⟩ by simp [Addr.add]] at this
      rw [this]; unfold lenW; rw [if_pos hi]
end
end Go.Proofs.YtmommdhnogogdaaGreatDoor
