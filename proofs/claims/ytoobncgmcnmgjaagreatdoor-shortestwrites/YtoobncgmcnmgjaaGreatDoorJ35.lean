/-
  Texts that the proof leans on, joined: So9, Lai, Xf, Xs, Rsm.
-/
import Derived.Test.YtoobncgmcnmgjaaGreatDoorJ34
import Derived.Test.YtoobncgmcnmgjaaGreatDoorJ1
import Derived.Test.YtoobncgmcnmgjaaGreatDoorJ13
import Derived.Lib.SmallJoins
import Derived.Test.YtoobncgmcnmgjaaGreatDoorJ26
import Derived.Test.YtoobncgmcnmgjaaGreatDoorJ20
import Derived.Test.YtoobncgmcnmgjaaGreatDoorJ16
import Derived.Test.YtoobncgmcnmgjaaGreatDoorJ17
import Derived.Test.YtoobncgmcnmgjaaGreatDoorJ32
import Derived.Test.YtoobncgmcnmgjaaGreatDoorJ31
import Derived.Test.YtoobncgmcnmgjaaGreatDoorJ19
import Derived.Deep.RegionWith
import Derived.Test.YtoobncgmcnmgjaaGreatDoorJ22
import Derived.Test.YtoobncgmcnmgjaaGreatDoorJ30
set_option linter.unusedVariables false
set_option linter.unusedSectionVars false
set_option linter.unusedSimpArgs false
set_option maxRecDepth 20000
namespace Go.Proofs.YtoobncgmcnmgjaaGreatDoor
open Go.RowKit

attribute [local irreducible] W4 Nz Nt NT NV
set_option maxHeartbeats 2000000 in
theorem rvalue_v (c : Int) (s g : Bool) (x : Int) (k : Nat) (w : World) (hk : k < 2 ^ 256) (hx : -16990 ≤ x ∧ x ≤ 16990) :
    Calls Tryz.prog 28 #[DV c s g x k, .int .u64 2] w fun r w' => ∃ a b, r = .returned (.tuple #[a, b]) ∧ NT 900 (k * 2 ^ x.toNat) a w' ∧ NT 900 (2 ^ (-x).toNat) b w' ∧ Below w.heap.size w w' := by
  have hbk : bl k ≤ 256 := bl_le.2 hk
  have c26 := fun W => rnat_v k W hk
  have c30 : ∀ W v v', NT 4 k v W → NT 1 1 v' W → Calls Tryz.prog 30 #[v, v', .int .u64 2, .int .i64 x] W fun e w' => ∃ u, e = .returned u ∧ (∃ a b, u = .tuple #[a, b] ∧ NT 900 (k * 2 ^ x.toNat) a w' ∧ NT 900 (2 ^ (-x).toNat) b w') ∧ Below W.heap.size W w' := fun W v v' h1 h2 =>
    (rscale2 x (by omega) (h1.more (by decide)) (h2.more (by decide)) (by omega) (by decide)).mono fun e w' ⟨a, b, e1, e2, e3, e4⟩ => ⟨_, e1, ⟨a, b, rfl, e2, by rw [Nat.one_mul] at e3; exact e3⟩, e4⟩
  have hb0 := below1 w (.cells #[.int .i64 c, .bool s, .bool g, .int .i64 x, .int .u64 (W4 k 0), .int .u64 (W4 k 1), .int .u64 (W4 k 2), .int .u64 (W4 k 3)] 35)
  unfold DV
  go_enter Tryz.func28, Tryz.ntmps28
  go_wp2
  refine regV1 (h4 := w.heap.size) (k := k) (x := x) (A := k * 2 ^ x.toNat) (B := 2 ^ (-x).toNat) rfl rfl rfl (by simp) (by go_simp) (by go_simp) (by go_simp) (by go_simp) (by go_simp) c26 c30 ?_
  intro a w1 x0 x1 u4 u5 z0 z1 hsz hdf hb1
  go_wp2
  refine bodyPost_ret (v := .tuple #[x0, x1]) ?_ hdf ⟨x0, x1, rfl, z0, z1, bnx hb0 hb1⟩
  unfold slot at u4 u5
  rw [Array.getElem?_eq_getElem (by omega)] at u4 u5
  simp only [results, Tryz.results28]
  go_simp
section
variable (vn vd : Value) (e : Int) (A : Nat) (w : World) (he : -6000 ≤ e ∧ e ≤ 6000)
include he
set_option maxHeartbeats 1000000 in
theorem rsb_p (h : 0 ≤ e) (c48 : Calls Tryz.prog 48 #[.int .u64 10, .int .i64 e] w fun r w' => ∃ p, r = .returned p ∧ Below w.heap.size w w' ∧ Calls Tryz.prog 32 #[vd, p] w' fun r w'' => ∃ q, r = .returned q ∧ NT 900 A q w'' ∧ Below w'.heap.size w' w'') :
    Calls Tryz.prog 31 #[vn, vd, .int .i64 e] w fun r w' => ∃ b, r = .returned (.tuple #[vn, b]) ∧ NT 900 A b w' ∧ Below w.heap.size w w' := by
  go_enter Tryz.func31, Tryz.ntmps31
  go_wp2_with (first
    | (go_at_call 48; refine c48.mono ?_; rintro r w1 ⟨p, rfl, hb1, c32⟩)
    | (go_at_call 32; refine c32.mono ?_; rintro r w2 ⟨q, rfl, hq, hb2⟩))
  exact bodyPost_ret (v := .tuple #[vn, q]) (by simp only [results, Tryz.results31]; go_simp) rfl ⟨q, rfl, hq, bnx hb1 hb2⟩
set_option maxHeartbeats 1000000 in
theorem rsb_n (h : ¬ 0 ≤ e) (c48 : Calls Tryz.prog 48 #[.int .u64 10, .int .i64 (-e)] w fun r w' => ∃ p, r = .returned p ∧ Below w.heap.size w w' ∧ Calls Tryz.prog 32 #[vn, p] w' fun r w'' => ∃ q, r = .returned q ∧ NT 900 A q w'' ∧ Below w'.heap.size w' w'') :
    Calls Tryz.prog 31 #[vn, vd, .int .i64 e] w fun r w' => ∃ b, r = .returned (.tuple #[b, vd]) ∧ NT 900 A b w' ∧ Below w.heap.size w w' := by
  go_enter Tryz.func31, Tryz.ntmps31
  go_wp2_with (first
    | (go_at_call 48; refine c48.mono ?_; rintro r w1 ⟨p, rfl, hb1, c32⟩)
    | (go_at_call 32; refine c32.mono ?_; rintro r w2 ⟨q, rfl, hq, hb2⟩))
  exact bodyPost_ret (v := .tuple #[q, vd]) (by simp only [results, Tryz.results31]; go_simp) rfl ⟨q, rfl, hq, bnx hb1 hb2⟩
end
theorem rsb_v {N D : Nat} {vn vd : Value} {w : World} (e : Int) (he : -6000 ≤ e ∧ e ≤ 6000) (h : NT 900 N vn w) (h' : NT 900 D vd w) (hN : bl N ≤ 30000) (hD : bl D ≤ 30000) :
    Calls Tryz.prog 31 #[vn, vd, .int .i64 e] w fun r w' => ∃ a b, r = .returned (.tuple #[a, b]) ∧ NT 900 (N * 10 ^ (-e).toNat) a w' ∧ NT 900 (D * 10 ^ e.toNat) b w' ∧ Below w.heap.size w w' := by
  by_cases hp : 0 ≤ e
  · have c48 := rpow10_nv e.toNat w (by omega)
    rw [show ((e.toNat : Nat) : Int) = e by omega] at c48
    have b1 := bl_mul D (10 ^ e.toNat)
    have b2 := ten_bl e.toNat
    rw [show (-e).toNat = 0 by omega, Nat.pow_zero, Nat.mul_one]
    refine (rsb_p vn vd e (D * 10 ^ e.toNat) w he hp (c48.mono fun r w' ⟨p, e1, e2, e3⟩ => ⟨p, e1, e3, (rtimes_nt (by decide) (by decide) (h'.next e3).nv e2).mono fun r w'' ⟨q, f1, f2, f3⟩ => ⟨q, f1, f2.tight (by omega), f3⟩⟩)).mono fun r w' ⟨b, e1, e2, e3⟩ => ⟨_, _, e1, h.next e3, e2, e3⟩
  · have c48 := rpow10_nv (-e).toNat w (by omega)
    rw [show (((-e).toNat : Nat) : Int) = -e by omega] at c48
    have b1 := bl_mul N (10 ^ (-e).toNat)
    have b2 := ten_bl (-e).toNat
    rw [show e.toNat = 0 by omega, Nat.pow_zero, Nat.mul_one]
    refine (rsb_n vn vd e (N * 10 ^ (-e).toNat) w he hp (c48.mono fun r w' ⟨p, e1, e2, e3⟩ => ⟨p, e1, e3, (rtimes_nt (by decide) (by decide) (h.next e3).nv e2).mono fun r w'' ⟨q, f1, f2, f3⟩ => ⟨q, f1, f2.tight (by omega), f3⟩⟩)).mono fun r w' ⟨b, e1, e2, e3⟩ => ⟨_, _, e1, e2, h'.next e3, e3⟩
theorem tn_cmp {k : Nat} {x e : Int} : tnP k x e ↔ 2 ^ (-x).toNat * 10 ^ e.toNat ≤ k * 2 ^ x.toNat * 10 ^ (-e).toNat := by
  unfold tnP zE oE
  rw [Nat.mul_assoc 4, Nat.mul_assoc 4, Nat.mul_assoc k]
  exact Nat.mul_le_mul_left_iff (by decide)
set_option maxHeartbeats 4000000 in
theorem rtens_w (vn vd : Value) (LN LD E : Int) (w : World) (T : Int → Prop) (hL : 0 ≤ LN ∧ LN ≤ 17300 ∧ 0 ≤ LD ∧ LD ≤ 17300) (hE : -6000 ≤ E ∧ E ≤ 6000) (t1 : ∀ e, e ≤ E → T e) (t2 : ∀ e, E < e → ¬ T e)
    (c56n : ∀ W, Below w.heap.size w W → Calls Tryz.prog 56 #[vn] W fun r w' => r = .returned (.int .i64 LN) ∧ W = w')
    (c56d : ∀ W, Below w.heap.size w W → Calls Tryz.prog 56 #[vd] W fun r w' => r = .returned (.int .i64 LD) ∧ W = w')
    (cy : ∀ W e (y : Int), y = -e → -6060 ≤ e ∧ e ≤ 6060 → T e → Below w.heap.size w W → Calls Tryz.prog 30 #[vn, vd, .int .u64 10, .int .i64 y] W fun r w' => ∃ a b, r = .returned (.tuple #[a, b]) ∧ (Calls Tryz.prog 38 #[a, b] w' fun r w'' => ∃ sv : Int, r = .returned (.int .i64 sv) ∧ ¬ sv < 0 ∧ w' = w'') ∧ Below W.heap.size W w')
    (cn : ∀ W e (y : Int), y = -e → -6060 ≤ e ∧ e ≤ 6060 → ¬ T e → Below w.heap.size w W → Calls Tryz.prog 30 #[vn, vd, .int .u64 10, .int .i64 y] W fun r w' => ∃ a b, r = .returned (.tuple #[a, b]) ∧ (Calls Tryz.prog 38 #[a, b] w' fun r w'' => ∃ sv : Int, r = .returned (.int .i64 sv) ∧ sv < 0 ∧ w' = w'') ∧ Below W.heap.size W w') :
    Calls Tryz.prog 29 #[vn, vd] w fun r w' => r = .returned (.int .i64 E) ∧ Below w.heap.size w w' := by
  have hgs := gs_bd (LN - LD) (by omega)
  have HG : Hid (-6000 ≤ ((LN - LD) * 30103).tdiv 100000 ∧ ((LN - LD) * 30103).tdiv 100000 ≤ 6000) := by
    show _ ∧ _
    by_cases h0 : 0 ≤ LN - LD
    · rw [Int.tdiv_eq_ediv_of_nonneg (by omega)]; omega
    · rw [show (LN - LD) * 30103 = -(-(LN - LD) * 30103) by omega, Int.neg_tdiv, Int.tdiv_eq_ediv_of_nonneg (by omega)]; omega
  go_enter Tryz.func29, Tryz.ntmps29
  go_wp2_with (first
    | (go_at_call_of 56 vn; refine (c56n _ bgo).mono ?_; rintro r w1 ⟨rfl, rfl⟩)
    | (go_at_call_of 56 vd; refine (c56d _ bgo).mono ?_; rintro r w1 ⟨rfl, rfl⟩))
  have hg := HG.out
  generalize ((LN - LD) * 30103).tdiv 100000 = e0 at *
  clear hgs HG c56n c56d
  rename World => w
  go_loopw [5] (fun t5 wr => ∃ e : Int, t5 = .int .i64 e ∧ -6000 ≤ e ∧ e ≤ 6000 ∧ Below w.heap.size w wr) (fun t5 _ => (intOf t5 - E).natAbs)
  case atStart => exact ⟨e0, rfl, hg.1, hg.2, Below.refl _ _⟩
  case round =>
    obtain ⟨e, rfl, h1, h2, hB⟩ := hrel
    by_cases hlt : E < e
    · have c30 := cn wr e (-e) rfl (by omega) (t2 e hlt) hB
      go_wp2_with (first
        | (go_at_call 30; refine c30.mono ?_; rintro r w1 ⟨a1, b1, rfl, c38, hb1⟩)
        | (go_at_call 38; refine c38.mono ?_; rintro r w2 ⟨sv, rfl, hsv, rfl⟩))
      go_roundw
      case rel => exact ⟨e - 1, by go_num, by omega, by omega, bnx hB hb1⟩
      case measure => simp [intOf]; omega
    · have c30 := cy wr e (-e) rfl (by omega) (t1 e (by omega)) hB
      by_cases heq : e = E
      · subst heq
        have c30b := fun W (hW : Below w.heap.size w W) => cn W (e + 1) (-e - 1) (by omega) (by omega) (t2 _ (by omega)) hW
        go_wp2_with (first
          | (go_at_call 30; refine (c30b _ (bnx hB hb1)).mono ?_; rintro r w3 ⟨a2, b2, rfl, d38, hb3⟩)
          | (go_at_call 30; refine c30.mono ?_; rintro r w1 ⟨a1, b1, rfl, c38, hb1⟩)
          | (go_at_call 38; refine d38.mono ?_; rintro r w4 ⟨sv2, rfl, hsv2, rfl⟩)
          | (go_at_call 38; refine c38.mono ?_; rintro r w2 ⟨sv, rfl, hsv, rfl⟩))
        go_ret
        exact ⟨rfl, bnx (bnx hB hb1) hb3⟩
      · have c30b := fun W (hW : Below w.heap.size w W) => cy W (e + 1) (-e - 1) (by omega) (by omega) (t1 _ (by omega)) hW
        go_wp2_with (first
          | (go_at_call 30; refine (c30b _ (bnx hB hb1)).mono ?_; rintro r w3 ⟨a2, b2, rfl, d38, hb3⟩)
          | (go_at_call 30; refine c30.mono ?_; rintro r w1 ⟨a1, b1, rfl, c38, hb1⟩)
          | (go_at_call 38; refine d38.mono ?_; rintro r w4 ⟨sv2, rfl, hsv2, rfl⟩)
          | (go_at_call 38; refine c38.mono ?_; rintro r w2 ⟨sv, rfl, hsv, rfl⟩))
        go_roundw
        case rel => exact ⟨e + 1, by go_num, by omega, by omega, bnx (bnx hB hb1) hb3⟩
        case measure => simp [intOf]; omega
/-- the first digit's place -/
theorem rtens_v {k : Nat} {x E : Int} {vn vd : Value} {w : World} (hk : k < 2 ^ 256) (hx : -16990 ≤ x ∧ x ≤ 16990) (hE : -6000 ≤ E ∧ E ≤ 6000) (h0 : tnP k x E) (h1 : ¬ tnP k x (E + 1)) (hn : NT 900 (k * 2 ^ x.toNat) vn w) (hd : NT 900 (2 ^ (-x).toNat) vd w) :
    Calls Tryz.prog 29 #[vn, vd] w fun r w' => r = .returned (.int .i64 E) ∧ Below w.heap.size w w' := by
  have hbk : bl k ≤ 256 := bl_le.2 hk
  have b1 := bl_mul k (2 ^ x.toNat)
  have b2 := two_bl x.toNat
  have b3 := two_bl (-x).toNat
  have sc : ∀ W e (y : Int), y = -e → -6060 ≤ e ∧ e ≤ 6060 → Below w.heap.size w W → Calls Tryz.prog 30 #[vn, vd, .int .u64 10, .int .i64 y] W fun r w' => ∃ a b, r = .returned (.tuple #[a, b]) ∧ (Calls Tryz.prog 38 #[a, b] w' fun r w'' => r = .returned (.int .i64 (sgn ((k * 2 ^ x.toNat * 10 ^ (-e).toNat : Nat) : Int) ((2 ^ (-x).toNat * 10 ^ e.toNat : Nat) : Int))) ∧ w' = w'') ∧ Below W.heap.size W w' := by
    rintro W e y rfl he hW
    refine (rscale10w (-e) (by omega) (hn.next hW) (hd.next hW) (by omega) (by omega)).mono fun r w' ⟨a, b, e1, e2, e3, e4⟩ => ⟨a, b, e1, ?_, e4⟩
    rw [Int.neg_neg] at e3
    exact rcmp_nv (by decide) (by decide) e2.nv e3.nv
  refine rtens_w vn vd (bl (k * 2 ^ x.toNat)) (bl (2 ^ (-x).toNat)) E w (fun e => tnP k x e) (by omega) hE (fun e he => tn_le h0 he) (fun e he h' => h1 (tn_le h' (by omega))) (fun W hW => rlen_nv (by decide) (hn.next hW).nv) (fun W hW => rlen_nv (by decide) (hd.next hW).nv) ?_ ?_
  · intro W e y hy he ht hW
    refine (sc W e y hy he hW).mono fun r w' ⟨a, b, e1, e2, e3⟩ => ⟨a, b, e1, e2.mono fun r w'' ⟨f1, f2⟩ => ⟨_, f1, ?_, f2⟩, e3⟩
    have := tn_cmp.1 ht
    rcases sgn_ways ((k * 2 ^ x.toNat * 10 ^ (-e).toNat : Nat) : Int) ((2 ^ (-x).toNat * 10 ^ e.toNat : Nat) : Int) with ⟨a, e⟩ | ⟨a, e⟩ | ⟨a, e⟩
    · have := Int.ofNat_lt.1 a; omega
    · omega
    · omega
  · intro W e y hy he ht hW
    refine (sc W e y hy he hW).mono fun r w' ⟨a, b, e1, e2, e3⟩ => ⟨a, b, e1, e2.mono fun r w'' ⟨f1, f2⟩ => ⟨_, f1, ?_, f2⟩, e3⟩
    have := mt tn_cmp.2 ht
    rcases sgn_ways ((k * 2 ^ x.toNat * 10 ^ (-e).toNat : Nat) : Int) ((2 ^ (-x).toNat * 10 ^ e.toNat : Nat) : Int) with ⟨a, e⟩ | ⟨a, e⟩ | ⟨a, e⟩
    · omega
    · exact absurd (Nat.le_of_eq (Int.ofNat_inj.1 a.symm)) this
    · exact absurd (Nat.le_of_lt (Int.ofNat_lt.1 a)) this
end Go.Proofs.YtoobncgmcnmgjaaGreatDoor

namespace Go.Proofs.YtoobncgmcnmgjaaGreatDoor
open Go.RowKit

section
variable {H : Type} {enc : TypeId × Value → H} {W : World} {base : Nat} {sp : Nat → Bool} {held : Bool}
theorem u59 : ∃ a b c d, Tryz.prog.underlying 137 = some (.struct #[a, b, c, d]) ∧ a.offset = 0 ∧ b.offset = 1 ∧ c.offset = 2 ∧ d.offset = 3 ∧ a.type = 9 ∧ b.type = 3 ∧ c.type = 3 ∧ d.type = 3 :=
  ⟨_, _, _, _, Tryz.underlying137, rfl, rfl, rfl, rfl, rfl, rfl, rfl, rfl⟩
theorem c9 : Tryz.prog.cellsOf 9 = 1 := by kernel_rfl
theorem c3 : Tryz.prog.cellsOf 3 = 1 := by kernel_rfl
theorem c59 : Tryz.prog.cellsOf 137 = 4 := by kernel_rfl
theorem c60 : Tryz.prog.cellsOf 138 = 48 := by kernel_rfl
theorem u60 : Tryz.prog.underlying 138 = some (.array 12 137) := by kernel_rfl
theorem row_cells {fuel : Nat} {cs : List Value} {nm : List UInt8} {a b c : Int} {p : DataW H × List MemPlace} (hp : p.1 = .agg [.lit (.string nm), .lit (.int .i64 a), .lit (.int .i64 b), .lit (.int .i64 c)])
    (h : DataW.trod enc Tryz.prog W base sp held fuel 137 cs = some p) : cs = [.string ⟨nm.toArray⟩, .int .i64 a, .int .i64 b, .int .i64 c] := by
  obtain ⟨f0, f1, f2, f3, hu, o0, o1, o2, o3, t0, t1, t2, t3⟩ := u59
  obtain ⟨y0, y1, y2, y3, n, rfl, hl, h0, h1, h2, h3⟩ := Joins.trod_struct4 hu h
  rw [o0, t0, c9] at h0
  rw [o1, t1, c3] at h1
  rw [o2, t2, c3] at h2
  rw [o3, t3, c3] at h3
  obtain ⟨s, hs, rfl, _⟩ := DataW.trod_string Tryz.underlying9 h0
  obtain ⟨z1, hz1, rfl, _⟩ := DataW.trod_int Tryz.underlying3 h1
  obtain ⟨z2, hz2, rfl, _⟩ := DataW.trod_int Tryz.underlying3 h2
  obtain ⟨z3, hz3, rfl, _⟩ := DataW.trod_int Tryz.underlying3 h3
  simp only [DataW.agg.injEq, List.cons.injEq, DataW.lit.injEq, Lit.string.injEq, Lit.int.injEq, true_and, and_true] at hp
  obtain ⟨rfl, rfl, rfl, rfl⟩ := hp
  rw [c59] at hl
  match cs, hl with
  | [v0, v1, v2, v3], _ =>
    simp at hs hz1 hz2 hz3
    subst hs hz1 hz2 hz3
    rfl
theorem row_at {cs : List Value} {i : Nat} {v0 v1 v2 v3 : Value} (h : (cs.drop (i * 4)).take 4 = [v0, v1, v2, v3]) : cs[i * 4]? = some v0 ∧ cs[i * 4 + 1]? = some v1 ∧ cs[i * 4 + 2]? = some v2 ∧ cs[i * 4 + 3]? = some v3 := by
  have g : ∀ k, k < 4 → cs[i * 4 + k]? = [v0, v1, v2, v3][k]? := fun k hk => by
    rw [← h, List.getElem?_take_of_lt hk, List.getElem?_drop]
  exact ⟨g 0 (by decide), g 1 (by decide), g 2 (by decide), g 3 (by decide)⟩
theorem tab_of_trod {fuel : Nat} {cs : List Value} {p : List MemPlace} (h : DataW.trod enc Tryz.prog W base sp held fuel 138 cs = some (Rows.laid_caliper_desc_rows, p)) :
    ∀ i k, i < 12 → k < 4 → cs[i * 4 + k]? = some (rowV i k) := by
  cases fuel with
  | zero => simp [DataW.trod] at h
  | succ fuel =>
    simp only [DataW.trod, u60, c59, c60] at h
    split at h
    · rename_i hl
      obtain ⟨xs, hm, hx⟩ := Option.map_eq_some_iff.1 h
      have hxs := congrArg Prod.fst hx
      simp only [Rows.laid_caliper_desc_rows, DataW.agg.injEq] at hxs
      intro i k hi hk
      obtain ⟨b, hb, hf⟩ := Lib.mapM_at hm i i (by simp [hi])
      have hd : (xs.map (·.1))[i]? = some b.1 := by simp [hb]
      rw [hxs] at hd
      have key : ∀ (nm : List UInt8) (x y z : Int), b.1 = .agg [.lit (.string nm), .lit (.int .i64 x), .lit (.int .i64 y), .lit (.int .i64 z)] → cs[i * 4]? = some (.string ⟨nm.toArray⟩) ∧ cs[i * 4 + 1]? = some (.int .i64 x) ∧ cs[i * 4 + 2]? = some (.int .i64 y) ∧ cs[i * 4 + 3]? = some (.int .i64 z) :=
        fun nm x y z e => row_at (row_cells e hf)
      have hk' : k = 0 ∨ k = 1 ∨ k = 2 ∨ k = 3 := by omega
      have hi' : i = 0 ∨ i = 1 ∨ i = 2 ∨ i = 3 ∨ i = 4 ∨ i = 5 ∨ i = 6 ∨ i = 7 ∨ i = 8 ∨ i = 9 ∨ i = 10 ∨ i = 11 := by omega
      rcases hi' with rfl | rfl | rfl | rfl | rfl | rfl | rfl | rfl | rfl | rfl | rfl | rfl
      all_goals
        obtain ⟨q0, q1, q2, q3⟩ := key _ _ _ _ (Option.some.inj hd).symm
        rcases hk' with rfl | rfl | rfl | rfl
        · exact q0
        · exact q1
        · exact q2
        · exact q3
    · cases h
end
theorem tab_of_laid {W : World} {rest : List (String × DataW Unit)} (h : laidMet Tryz.prog (("caliper/desc.rows", Rows.laid_caliper_desc_rows) :: rest) W) : Tab W := by
  obtain ⟨ps, ⟨g', t', cs, fuel, p, q, hg', ht', hvar, hd, _, _⟩, _⟩ := h
  have hg : Tryz.prog.globalNamed "caliper/desc.rows" = some 0 := by kernel_rfl
  have hty : (Tryz.prog.globals[0]?).map (·.type) = some 138 := by kernel_rfl
  obtain rfl := Option.some.inj (hg.symm.trans hg')
  obtain rfl := Option.some.inj (hty.symm.trans ht')
  have hc := tab_of_trod hd
  have hcell : ∀ i k, i < 12 → k < 4 → W.cell? ⟨0, i * 4 + k, none⟩ = some (rowV i k) := fun i k hi hk => by
    have := World.var?_cell hg hvar (i * 4 + k)
    rw [this, ← hc i k hi hk]
    simp
  refine ⟨?_, hcell⟩
  have h0 := hcell 0 0 (by decide) (by decide)
  by_cases hz : 0 < W.heap.size
  · exact hz
  · have : W.heap[0]? = none := Array.getElem?_eq_none (by omega)
    simp [World.cell?, this] at h0
end Go.Proofs.YtoobncgmcnmgjaaGreatDoor

namespace Go.Proofs.YtoobncgmcnmgjaaGreatDoor
open Go.RowKit

/-- a number without noughts ahead -/
theorem dV_ge {l : List UInt8} (hd : l.all dg = true) (h0 : by_ l 0 ≠ 48) (hl : l ≠ []) : 10 ^ (l.length - 1) ≤ dV l := by
  cases l with
  | nil => exact absurd rfl hl
  | cons c r =>
    have hr : r.all dg = true := by rw [List.all_cons] at hd; simp at hd; simpa using hd.2
    have hc : dg c = true := by rw [List.all_cons] at hd; simp at hd; exact hd.1
    unfold dg at hc
    have hc' := of_decide_eq_true hc
    rw [by_zero] at h0
    have h := numV_app (s := B (c :: r)) (u := B r) 1 (B r).size (fun i hi => by rw [sb_by, sb_by, Nat.add_comm, by_succ])
    have hs : (B (c :: r)).size = 1 + (B r).size := by rw [B_size, B_size, List.length_cons]; omega
    have h1 : numV (B (c :: r)) 1 = (c.toNat : Int) - 48 := by
      have : numV (B (c :: r)) 1 = numV (B (c :: r)) 0 * 10 + (sb (B (c :: r)) 0 - 48) := rfl
      rw [this, sb_by, by_zero]
      have : numV (B (c :: r)) 0 = 0 := rfl
      omega
    have hb := (numV_bd _ (dig_B hr)).1
    have e := (dV_lt hd).2
    rw [hs, h, h1] at e
    rw [B_size] at e hb
    have hp : ((10 : Int) ^ r.length) = ((10 ^ r.length : Nat) : Int) := by simp
    rw [hp] at e
    show 10 ^ (r.length + 1 - 1) ≤ _
    rw [Nat.add_sub_cancel]
    have hm : 1 * ((10 ^ r.length : Nat) : Int) ≤ ((c.toNat : Int) - 48) * ((10 ^ r.length : Nat) : Int) := Int.mul_le_mul_of_nonneg_right (by omega) (Int.natCast_nonneg _)
    omega
theorem dV_nil : dV [] = 0 := rfl
end Go.Proofs.YtoobncgmcnmgjaaGreatDoor

namespace Go.Proofs.YtoobncgmcnmgjaaGreatDoor
open Go.RowKit

/-- the parts with this sign -/
def Prt.at (p : Prt) (s : Bool) : Prt := ⟨p.cls, s, p.sn, p.dig, p.ex⟩
/-! Make by value -/
/-! Read by value -/
end Go.Proofs.YtoobncgmcnmgjaaGreatDoor

namespace Go.Proofs.YtoobncgmcnmgjaaGreatDoor
open Go.RowKit

set_option maxHeartbeats 400000 in
theorem ofb_any (c : Int) (w : World) (hc : 0 ≤ c ∧ c ≤ 18446744073709551615) :
    Calls Tryz.prog 84 #[.int .u64 c] w fun e w' => ∃ g k cap z, e = .returned (.slice (some ⟨g, 0, none⟩) k cap) ∧ k ≤ 1 ∧ Num w' (some ⟨g, 0, none⟩) k cap z ∧ val z k = c ∧ Below w.heap.size w w' := by
  have hN := num_one w c hc
  have hT := trim_any _ 1 1 (oneW c) _ (by omega) hN
  have hle := sizeL_le (oneW c) 1
  have HV : Hid (val (oneW c) (sizeL (oneW c) 1) = c) := by show _ = _; rw [val_bare, val_one _ 1 (by omega)]
  have HB := below1 w (.cells #[.int .u64 c] 22)
  generalize sizeL (oneW c) 1 = s at *
  clear hN
  go_enter Tryz.func84, Tryz.ntmps84
  go_wp2_with (go_at_call 49; refine hT.mono ?_; rintro e w1 ⟨g, cap, rfl, hN, hB⟩)
  go_ret
  exact ⟨g, s, cap, _, rfl, hle, hN, HV.out, HB.trans (hB.mono HB.size)⟩
/-- the quotient's words from k on -/
def quoKb (x : Nat → Int) (d : Int) (s k i : Nat) : Int := if k ≤ i ∧ i < s then quoW x d s i else 0
set_option maxHeartbeats 1000000 in
theorem smb_any (a : Option Addr) (s c : Nat) (x : Nat → Int) (d : Int) (w : World) (hs : s < 100000) (h : Num w a s c x) (hd : 0 < d ∧ d ≤ 18446744073709551615) :
    Calls Tryz.prog 50 #[.slice a s c, .int .u64 d] w fun e w' => ∃ g k cap z g' k' cap' z', e = .returned (.tuple #[.slice (some ⟨g, 0, none⟩) k cap, .slice (some ⟨g', 0, none⟩) k' cap']) ∧ k ≤ s ∧ k' ≤ 1 ∧ Num w' (some ⟨g, 0, none⟩) k cap z ∧ Num w' (some ⟨g', 0, none⟩) k' cap' z' ∧ val z k = val x s / d ∧ sizeL z k = k ∧ val z' k' = val x s % d ∧ Below w.heap.size w w' := by
  have hx := h.2.2.1
  have H := fun j hj w => limDiv_ok x d s hx hd j hj w
  have hd0 : (d == 0) = false := by simp; omega
  have hmk := fun w => make_any (s : Int) s rfl (by omega) w
  have hA := apart_of h
  have hBW := below1 w (.cells (arrOf (fun _ => 0) s) 22)
  have hnx := h.next hBW
  have hO := Own.new w (fun _ => 0) s
  have hqv := quo_val hx hd.1 s
  have HQW : Hid (Words (quoW x d s)) := quoW_words hx hd.1 s
  have hrb := remJ_bd x d s s hd.1
  have HB : Hid (Below w.heap.size w (w.alloc (.cells (arrOf (fun _ => 0) s) 22))) := hBW
  clear hBW h hx
  go_enter Tryz.func50, Tryz.ntmps50
  go_wp2
  generalize w.alloc (.cells (arrOf (fun _ => 0) s) 22) = wA at *
  go_loopw [7, 8, 19] (fun c i u19 wr => ∃ (k : Nat), k ≤ s ∧ i = .int .i64 ((k : Int) - 1) ∧ c = .int .u64 (remJ x d s (s - k)) ∧ Own w.heap.size s (quoKb x d s k) wr ∧ Upd w.heap.size wA wr) (fun _ i _ _ => (intOf i + 1).toNat)
  case atStart => exact ⟨s, Nat.le_refl _, by go_num, by rw [Nat.sub_self]; rfl, hO.congr fun i _ => by unfold quoKb; rw [if_neg (by omega)], Upd.refl _ _⟩
  case round =>
    clear hO
    obtain ⟨k, hk, rfl, rfl, hO, hU⟩ := hrel
    by_cases h0 : k = 0
    · subst h0
      have hN := hO.num (x := quoKb x d s 0) (fun i => by unfold quoKb; split; exact HQW.out i; decide) 0 s s (by omega) (Nat.le_refl _) (by unfold maxLen; omega)
      have hT := trim_any _ s s _ _ (by omega) hN
      have hle := sizeL_le (segW (quoKb x d s 0) 0 s) s
      have HV : Hid (val (segW (quoKb x d s 0) 0 s) (sizeL (segW (quoKb x d s 0) 0 s) s) = val x s / d) := by
        show _ = _
        rw [val_bare, val_congr (y := quoW x d s) s fun i hi => by rw [segW_lt _ _ _ i hi, Nat.zero_add]; unfold quoKb; rw [if_pos (by omega)], hqv.1]
      have HR : Hid (remJ x d s s = val x s % d) := hqv.2
      have HBr : Hid (Below w.heap.size w wr) := HB.out.trans (hU.below (Nat.le_refl _))
      have HST : Hid (sizeL (segW (quoKb x d s 0) 0 s) (sizeL (segW (quoKb x d s 0) 0 s) s) = sizeL (segW (quoKb x d s 0) 0 s) s) := sizeL_sizeL _ _
      generalize segW (quoKb x d s 0) 0 s = qz at *
      generalize sizeL qz s = k1 at *
      have hof := fun wr => ofb_any (remJ x d s s) wr (by omega)
      rw [Nat.sub_zero]
      generalize remJ x d s s = rm at *
      clear hN hO hU H hqv
      go_wp2_with (go_at_call 49; refine hT.mono ?_; rintro e w1 ⟨g, cap, rfl, hN1, hB1⟩; clear hT)
      go_wp2_with (go_at_call 84; refine (hof _).mono ?_; rintro e w2 ⟨g2, k2, p2, z2, rfl, hk2, hN2, hv2, hB2⟩; clear hof)
      go_ret2
      exact ⟨g, k1, cap, qz, g2, k2, p2, z2, rfl, hle, hk2, hN1.next hB2, hN2, HV.out, HST.out, by rw [hv2, HR.out], (HBr.out.trans (hB1.mono HBr.out.size)).trans (hB2.mono (Nat.le_trans HBr.out.size hB1.size))⟩
    · obtain ⟨j, rfl⟩ : ∃ j, k = j + 1 := ⟨k - 1, by omega⟩
      have hjm : (j : Int) < s := by omega
      have ej : ((j + 1 : Nat) : Int) - 1 = j := by omega
      have ej2 : s - (j + 1) = s - 1 - j := by omega
      rw [ej, ej2]
      obtain ⟨b, off, rfl, hbs, hc⟩ := (hU.num' hA hnx).cells (by omega)
      have hcx := hc j (by omega)
      have hcj : ∃ u, wr.cell? ⟨w.heap.size, j, none⟩ = some (.int .u64 u) := ⟨_, hO.cell j (by omega)⟩
      obtain ⟨u, hcj⟩ := hcj
      have hfj := hO.frozen j
      have HJ := H j (by omega)
      have HO : Hid (Own w.heap.size s (quoKb x d s j) (wr.setCell ⟨w.heap.size, j, none⟩ (.int .u64 (quoW x d s j)))) := (hO.set j (quoW x d s j)).congr fun i hi => by
        unfold quoKb
        by_cases e : i = j
        · subst e; rw [if_pos rfl, if_pos (by omega)]
        · rw [if_neg e]
          by_cases e2 : j + 1 ≤ i ∧ i < s
          · rw [if_pos e2, if_pos (by omega)]
          · rw [if_neg e2, if_neg (by omega)]
      have HU : Hid (Upd w.heap.size wA (wr.setCell ⟨w.heap.size, j, none⟩ (.int .u64 (quoW x d s j)))) := hU.set j _
      clear hO hU H ej ej2 hc hqv hA hnx
      go_wp2_with (go_at_call 83; refine (HJ _).mono ?_; rintro e w' ⟨rfl, m', rfl⟩)
      go_roundw
      case rel => exact ⟨j, by omega, by go_num, rfl, HO.out, HU.out.drewN m'⟩
      case measure => simp [intOf]
end Go.Proofs.YtoobncgmcnmgjaaGreatDoor
