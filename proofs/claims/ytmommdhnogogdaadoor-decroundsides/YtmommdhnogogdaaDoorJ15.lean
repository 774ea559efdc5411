/-
  Texts that the proof leans on, joined: Rm, Rf, Rg, Rh, Wm, Ua, Ub.
-/
import Derived.Test.YtmommdhnogogdaaDoorJ11
import Derived.Test.YtmommdhnogogdaaDoorJ8
import Derived.Test.YtmommdhnogogdaaDoorJ14
import Derived.Test.YtmommdhnogogdaaDoorJ12
set_option linter.unusedVariables false
set_option linter.unusedSectionVars false
set_option linter.unusedSimpArgs false
set_option maxRecDepth 20000
namespace Go.Proofs.YtmommdhnogogdaaDoor

theorem bl_bd {V : Nat} (h : V ≠ 0) : 2 ^ (bl V - 1) ≤ V ∧ V < 2 ^ bl V ∧ 1 ≤ bl V := by
  have h0 : bl V ≠ 0 := fun e => h (bl_zero.1 e)
  exact ⟨bl_ge.1 (by omega), bl_le.1 (Nat.le_refl _), by omega⟩
end Go.Proofs.YtmommdhnogogdaaDoor

namespace Go.Proofs.YtmommdhnogogdaaDoor
open Go.RowKit
theorem rless_tr (a a' : Option Addr) (n c n' c' : Nat) (x y : Nat → Int) (w : World) (hn : n < 4294967290) (hn' : n' < 4294967290) (h : Num w a n c x) (h' : Num w a' n' c' y) :
    Calls Tryd.prog 56 #[.slice a n c, .slice a' n' c'] w fun e w' => ∃ g k cap, e = .returned (.slice (some ⟨g, 0, none⟩) k cap) ∧ k ≤ max n n' ∧ Num w' (some ⟨g, 0, none⟩) k cap (difZ x y (max n n')) ∧ sizeL (difZ x y (max n n')) k = k ∧ Below w.heap.size w w' := by
  have hx := h.2.2.1
  have hy := h'.2.2.1
  have zx := h.2.2.2.1
  have zy := h'.2.2.2.1
  obtain ⟨M, hM⟩ : ∃ M, max n n' = M := ⟨_, rfl⟩
  have hMi : max (n : Int) n' = (M : Int) := by omega
  have hMb : M < 4294967292 := by omega
  have hmk := fun w => make_any (max (n : Int) n') M hMi (by omega) w
  have hfin : ∀ (ss : Array Value), ss.size = M → (∀ j h, ss[j]'h = Value.int .u64 (difW x y j)) → Num (w.alloc (.cells ss 26)) (some ⟨w.heap.size, 0, none⟩) M M (difZ x y (max n n')) := fun ss h1 h2 => num_of_block (by omega) (difZ_words x y _) (fun i hi => by unfold difZ; rw [if_neg (by omega)]) h1 (fun j hj => by rw [h2 j hj]; unfold difZ; rw [if_pos (by omega)])
  have hw1 := fun (i : Nat) (ss : Array Value) => word_any a n c i x (w.alloc (.cells ss 26)) (h.next (below1 w _))
  have hw2 := fun (i : Nat) (ss : Array Value) => word_any a' n' c' i y (w.alloc (.cells ss 26)) (h'.next (below1 w _))
  have HM : Hid (max n n' = M) := hM
  have HZ : Hid ((arrOf (fun _ => 0) M).size = M ∧ ∀ j h, (arrOf (fun _ => 0) M)[j]'h = Value.int .u64 0) := ⟨arrOf_size _ _, fun j h => arrOf_get _ _ _ _⟩
  clear h h' zx zy hM hMi
  generalize arrOf (fun _ => 0) M = zz at *
  go_enter Tryd.func56, Tryd.ntmps56
  go_wp2
  go_loopw [6, 7, 16, 19] (fun c u7 i u20 wr => ∃ (k : Nat) (ss : Array Value), k ≤ M ∧ i = .int .i64 k ∧ c = .int .u64 (borW x y k) ∧ ss.size = M ∧ (∀ j h, ss[j]'h = Value.int .u64 (if j < k then difW x y j else 0)) ∧ wr = w.alloc (.cells ss 26)) (fun _ _ i _ _ => M - (intOf i).toNat)
  case atStart => exact ⟨0, zz, Nat.zero_le _, rfl, rfl, HZ.out.1, fun j h => by rw [HZ.out.2 j h]; simp, rfl⟩
  case round =>
    obtain ⟨k, ss, hk, rfl, rfl, hsz, hss, rfl⟩ := hrel
    have hcar := borW_01 x y k
    by_cases h8 : k < M
    · have h8i : (k : Int) < M := by omega
      have h8s : k < ss.size := by omega
      have bx := hx k
      have b_y := hy k
      have hsk : ss[k]? = some (.int .u64 0) := by rw [Array.getElem?_eq_getElem h8s, hss k h8s, if_neg (by omega)]
      have hadd := fun w => sub64 (x k) (y k) (borW x y k) bx.1 b_y.1 (by omega) hcar.1 hcar.2 w
      have hwa := hw1 k ss
      have hwb := hw2 k ss
      have HR : Hid (∀ (i : Nat) (h : i < (ss.setIfInBounds k (.int .u64 (difW x y k))).size), (ss.setIfInBounds k (.int .u64 (difW x y k)))[i]'h = Value.int .u64 (if i < k + 1 then difW x y i else 0)) := set_next hss
      clear hss hw1 hw2 hfin hmk hx hy
      go_wp2_with (first | (go_at_call_of 33 (Value.slice a n c); refine hwa.mono ?_; rintro e w' ⟨rfl, rfl⟩) | (go_at_call_of 33 (Value.slice a' n' c'); refine hwb.mono ?_; rintro e w' ⟨rfl, rfl⟩))
      go_roundw
      case rel => exact ⟨k + 1, ss.setIfInBounds k (.int .u64 (difW x y k)), by omega, by go_num, rfl, by simp [hsz], HR.out, rfl⟩
      case measure => simp [intOf]; omega
    · obtain rfl : k = M := by omega
      have hss' : ∀ j h, ss[j]'h = Value.int .u64 (difW x y j) := by
        intro j h; rw [hss j h, if_pos (by omega)]
      have hT := trim_any _ _ _ _ _ (by omega) (hfin ss hsz hss')
      have hle := sizeL_le (difZ x y (max n n')) k
      clear hss hss' hw1 hw2 hfin hmk hx hy
      go_wp2_with (go_at_call 31; refine hT.mono ?_; rintro e w1 ⟨g, cap, rfl, hN, hB⟩)
      go_ret
      exact ⟨g, _, cap, rfl, Nat.le_trans hle (Nat.le_of_eq HM.out.symm), hN, sizeL_sizeL _ _, (below1 w _).trans (hB.mono (by simp))⟩

/-- a natural number, of at most K words -/
def NV (K V : Nat) (v : Value) (w : World) : Prop := ∃ g k cap z, v = .slice (some ⟨g, 0, none⟩) k cap ∧ k ≤ K ∧ Num w (some ⟨g, 0, none⟩) k cap z ∧ val z k = (V : Int)
theorem NV.next {K V : Nat} {v : Value} {w w' : World} (h : NV K V v w) (hb : Below w.heap.size w w') : NV K V v w' := by
  obtain ⟨g, k, cap, z, h1, h2, h3, h4⟩ := h
  exact ⟨g, k, cap, z, h1, h2, h3.next hb, h4⟩
theorem NV.more {K K' V : Nat} {v : Value} {w : World} (h : NV K V v w) (hk : K ≤ K') : NV K' V v w := by
  obtain ⟨g, k, cap, z, h1, h2, h3, h4⟩ := h
  exact ⟨g, k, cap, z, h1, by omega, h3, h4⟩
/-- a natural number without noughts at its end -/
def NT (K V : Nat) (v : Value) (w : World) : Prop := ∃ g k cap z, v = .slice (some ⟨g, 0, none⟩) k cap ∧ k ≤ K ∧ Num w (some ⟨g, 0, none⟩) k cap z ∧ val z k = (V : Int) ∧ sizeL z k = k
theorem NT.nv {K V : Nat} {v : Value} {w : World} (h : NT K V v w) : NV K V v w := by
  obtain ⟨g, k, cap, z, h1, h2, h3, h4, _⟩ := h
  exact ⟨g, k, cap, z, h1, h2, h3, h4⟩
theorem NT.next {K V : Nat} {v : Value} {w w' : World} (h : NT K V v w) (hb : Below w.heap.size w w') : NT K V v w' := by
  obtain ⟨g, k, cap, z, h1, h2, h3, h4, h5⟩ := h
  exact ⟨g, k, cap, z, h1, h2, h3.next hb, h4, h5⟩
theorem rless_nt {K K' A B : Nat} {v v' : Value} {w : World} (hK : K < 1000) (hK' : K' < 1000) (h : NV K A v w) (h' : NV K' B v' w) (hv : B ≤ A) :
    Calls Tryd.prog 56 #[v, v'] w fun e w' => ∃ r, e = .returned r ∧ NT (K + K') (A - B) r w' ∧ Below w.heap.size w w' := by
  obtain ⟨g, k, c, z, rfl, hk, hN, hz⟩ := h
  obtain ⟨g2, k2, c2, z2, rfl, hk2, hN2, hz2⟩ := h'
  refine (rless_tr _ _ k c k2 c2 z z2 w (by omega) (by omega) hN hN2).mono fun e w' ⟨g3, k3, cap3, e1, hk3, hN3, ht, hB⟩ => ⟨_, e1, ⟨g3, k3, cap3, _, rfl, by omega, hN3, ?_, ht⟩, hB⟩
  have ex := val_more hN.2.2.2.1 (max k k2) (by omega)
  have ey := val_more hN2.2.2.2.1 (max k k2) (by omega)
  have e := dif_val hN.2.2.1 hN2.2.2.1 (max k k2)
  rw [borW_end hN.2.2.1 hN2.2.2.1 (by omega), ex, ey] at e
  rw [← val_more hN3.2.2.2.1 _ hk3, val_congr (y := difW z z2) (max k k2) fun i hi => by unfold difZ; rw [if_pos hi]]
  omega
theorem radd_nv {K K' A B : Nat} {v v' : Value} {w : World} (hK : K < 1000000) (hK' : K' < 1000000) (h : NV K A v w) (h' : NV K' B v' w) :
    Calls Tryd.prog 12 #[v, v'] w fun e w' => ∃ r, e = .returned r ∧ NV (K + K' + 1) (A + B) r w' ∧ Below w.heap.size w w' := by
  obtain ⟨g, k, c, z, rfl, hk, hN, hz⟩ := h
  obtain ⟨g2, k2, c2, z2, rfl, hk2, hN2, hz2⟩ := h'
  refine (radd_val _ _ k c k2 c2 z z2 w (by omega) (by omega) hN hN2).mono fun e w' ⟨g3, k3, cap3, z3, e1, hk3, hN3, hv3, hB⟩ => ⟨_, e1, ⟨g3, k3, cap3, z3, rfl, by omega, hN3, ?_⟩, hB⟩
  rw [hv3, hz, hz2]; omega
theorem NT.zero {K V : Nat} {v : Value} {w : World} (h : NT K V v w) : ∃ g k cap, v = .slice (some ⟨g, 0, none⟩) k cap ∧ k ≤ K ∧ (k = 0 ↔ V = 0) := by
  obtain ⟨g, k, cap, z, h1, h2, h3, h4, h5⟩ := h
  refine ⟨g, k, cap, h1, h2, ?_⟩
  constructor
  · intro hk; subst hk
    have : val z 0 = 0 := rfl
    omega
  · intro hV
    rcases Nat.eq_zero_or_pos k with hk | hk
    · exact hk
    · exfalso
      have ht := sizeL_top (x := z) k (by omega)
      rw [h5] at ht
      obtain ⟨j, rfl⟩ : ∃ j, k = j + 1 := ⟨k - 1, by omega⟩
      have hs : val z (j + 1) = val z j + z j * 18446744073709551616 ^ j := rfl
      have hb := val_bd h3.2.2.1 j
      have hp := pw_pos j
      have hj := h3.2.2.1 j
      have hz : z j ≠ 0 := ht
      have : 1 * 18446744073709551616 ^ j ≤ z j * 18446744073709551616 ^ j := Int.mul_le_mul_of_nonneg_right (by omega) (Int.le_of_lt hp)
      omega
end Go.Proofs.YtmommdhnogogdaaDoor

namespace Go.Proofs.YtmommdhnogogdaaDoor
open Go.RowKit
attribute [local go_sem ↓] Go.wp_at_zero Go.wp_at_succ

theorem nv_low {k V : Nat} {z : Nat → Int} (hz : Words z) (h0 : ∀ i, k ≤ i → z i = 0) (hv : val z k = (V : Int)) : val z 4 = ((V % 2 ^ 256 : Nat) : Int) := by
  have h1 : val z (4 + k) = (V : Int) := by rw [val_more h0 (4 + k) (by omega), hv]
  rw [val_split z 4 k] at h1
  have hb := val_bd hz 4
  have e4 : (18446744073709551616 : Int) ^ 4 = ((2 ^ 256 : Nat) : Int) := by decide
  rw [e4] at h1 hb
  have h5 := congrArg (· % ((2 ^ 256 : Nat) : Int)) h1
  simp only [Int.add_mul_emod_self_right, Int.emod_eq_of_lt hb.1 hb.2] at h5
  rw [h5]
  rfl
set_option maxHeartbeats 1000000 in
theorem bits_num (g k cap : Nat) (z : Nat → Int) (w : World) (h : Num w (some ⟨g, 0, none⟩) k cap z) :
    Calls Tryd.prog 55 #[.slice (some ⟨g, 0, none⟩) k cap] w fun e w' => e = .returned (.agg (arrOf z 4)) ∧ Below w.heap.size w w' := by
  have hw := fun (i : Nat) (o1 o2 : Obj) => word_any (some ⟨g, 0, none⟩) k cap i z ((w.alloc o1).alloc o2) ((h.next (below1 w _)).next (below1 _ _))
  clear h
  go_enter Tryd.func55, Tryd.ntmps55
  go_wp2
  go_loopw [4, 5] (fun u4 i wr => ∃ (j : Nat) (ss : Array Value), j ≤ 4 ∧ i = .int .i64 j ∧ ss.size = 4 ∧ (∀ q h, ss[q]'h = Value.int .u64 (if q < j then z q else 0)) ∧ wr = (w.alloc (.cells #[.int .u64 0, .int .u64 0, .int .u64 0, .int .u64 0] 28)).alloc (.cells ss 28)) (fun _ i _ => 4 - (intOf i).toNat)
  case atStart => exact ⟨0, _, Nat.zero_le _, rfl, rfl, by intro q h; have h' : q < 4 := h; match q, h' with | 0, _ => rfl | 1, _ => rfl | 2, _ => rfl | 3, _ => rfl, rfl⟩
  case round =>
    obtain ⟨j, ss, hj, rfl, hsz, hss, rfl⟩ := hrel
    by_cases h4 : j < 4
    · have h4i : (j : Int) < 4 := by omega
      have h4s : j < ss.size := by omega
      have hsk : ss[j]? = some (.int .u64 0) := by rw [Array.getElem?_eq_getElem h4s, hss j h4s, if_neg (by omega)]
      have HR : Hid (∀ (i : Nat) (h : i < (ss.setIfInBounds j (.int .u64 (z j))).size), (ss.setIfInBounds j (.int .u64 (z j)))[i]'h = Value.int .u64 (if i < j + 1 then z i else 0)) := set_next hss
      have hwj := hw j (.cells #[.int .u64 0, .int .u64 0, .int .u64 0, .int .u64 0] 28) (.cells ss 28)
      clear hss hw
      go_wp2_with (go_at_call 33; refine hwj.mono ?_; rintro e w' ⟨rfl, rfl⟩)
      go_roundw
      case rel => exact ⟨j + 1, ss.setIfInBounds j (.int .u64 (z j)), by omega, by go_num, by simp [hsz], HR.out, rfl⟩
      case measure => simp [intOf]; omega
    · obtain rfl : j = 4 := by omega
      have hss' : ∀ q h, ss[q]'h = Value.int .u64 (z q) := by
        intro q h; rw [hss q h, if_pos (by omega)]
      clear hss hw
      go_wp2
      exact bodyPost_ret (v := .agg (arrOf z 4)) (by simp [results, Tryd.results55, go_sem]; rfl) rfl ⟨rfl, ((Below.refl _ _).alloc (Nat.le_refl _) _).alloc (by simp) _⟩
theorem bits_nv {K V : Nat} {v : Value} {w : World} (h : NV K V v w) :
    Calls Tryd.prog 55 #[v] w fun e w' => e = .returned (A4 V) ∧ Below w.heap.size w w' := by
  obtain ⟨g, k, cap, z, rfl, hk, hN, hv⟩ := h
  refine (bits_num g k cap z w hN).mono ?_
  rintro e w' ⟨rfl, hb⟩
  refine ⟨?_, hb⟩
  rw [arr_A4 hN.2.2.1 (nv_low hN.2.2.1 hN.2.2.2.1 hv)]
theorem box_nv {w0 w : World} {B : Nat} {t : TypeId} (hB : B < 2 ^ 256) (hb : Below (w0.alloc (.cells #[.int .u64 (W4 B 0), .int .u64 (W4 B 1), .int .u64 (W4 B 2), .int .u64 (W4 B 3)] t)).heap.size (w0.alloc (.cells #[.int .u64 (W4 B 0), .int .u64 (W4 B 1), .int .u64 (W4 B 2), .int .u64 (W4 B 3)] t)) w) :
    NV 4 B (.slice (some ⟨w0.heap.size, 0, none⟩) 4 4) w :=
  ⟨_, 4, 4, _, rfl, Nat.le_refl _, box_num (W4_words B) (A4_get B) hb, by
    rw [val_congr (x := lowW (W4 B) 4) (y := W4 B) 4 (fun i hi => lowW_lt hi), W4_val4 hB]⟩
end Go.Proofs.YtmommdhnogogdaaDoor

namespace Go.Proofs.YtmommdhnogogdaaDoor
open Go.RowKit

theorem nt_one2 {W : World} {g V : Nat} {vi : Int} {o : Obj} (hg : g = W.heap.size) (hv : vi = (V : Int)) (hb : V < 18446744073709551616) : Nt 2001 V (.slice (some ⟨g, 0, none⟩) 1 1) ((W.alloc (.cells #[.int .u64 vi] 26)).alloc o) :=
  ((nt_one hg hv hb).more (by decide)).next ((Below.refl _ _).alloc (Nat.le_refl _) _)
attribute [local irreducible] W4 Nt
end Go.Proofs.YtmommdhnogogdaaDoor

namespace Go.Proofs.YtmommdhnogogdaaDoor
open Go.RowKit

def whC (d : Int) (s : Bool) (A B : Nat) : Nat := if faB d s (decide (A / B % 2 = 1)) (A % B) B then A / B + 1 else A / B
theorem fa_sc (d : Int) (s o : Bool) (R D k : Nat) (hk : 0 < k) : faB d s o (R * k) (D * k) = faB d s o R D := by
  have e1 : R * k = 0 ↔ R = 0 := by rw [Nat.mul_eq_zero]; omega
  have e2 : D * k < R * k + R * k ↔ D < R + R := by rw [← Nat.add_mul]; exact Nat.mul_lt_mul_right hk
  have e3 : R * k + R * k = D * k ↔ R + R = D := by rw [← Nat.add_mul]; exact Nat.mul_right_cancel_iff hk
  have e4 : D * k ≤ R * k + R * k ↔ D ≤ R + R := by rw [← Nat.add_mul]; exact Nat.mul_le_mul_right_iff hk
  unfold faB
  simp only [e1, e2, e3, e4]
end Go.Proofs.YtmommdhnogogdaaDoor

namespace Go.Proofs.YtmommdhnogogdaaDoor
open Go.RowKit

/-- ten to the power of e isn't above N / D -/
def tnG (N D : Nat) (e : Int) : Prop := D * 10 ^ e.toNat ≤ N * 10 ^ (-e).toNat
instance (N D : Nat) (e : Int) : Decidable (tnG N D e) := inferInstanceAs (Decidable (_ ≤ _))
theorem ten_pos (n : Nat) : 0 < (10 : Nat) ^ n := Nat.pow_pos (by decide)
/-- a step of p, from q on -/
theorem tnG_add (N D p : Nat) (q : Int) : tnG N D (q + p) ↔ D * 10 ^ q.toNat * 10 ^ p ≤ N * 10 ^ (-q).toNat := by
  unfold tnG
  by_cases h0 : 0 ≤ q
  · rw [show (-(q + (p : Int))).toNat = 0 by omega, show (-q).toNat = 0 by omega, show (q + (p : Int)).toNat = q.toNat + p by omega, Nat.pow_add, Nat.mul_assoc]
  · by_cases h1 : 0 ≤ q + (p : Int)
    · obtain ⟨a, ha⟩ : ∃ a : Nat, q = -(a : Int) := ⟨(-q).toNat, by omega⟩
      obtain ⟨b, hb⟩ : ∃ b : Nat, p = a + b := ⟨p - a, by omega⟩
      subst hb
      rw [show (-(q + ((a + b : Nat) : Int))).toNat = 0 by omega, show (-q).toNat = a by omega, show (q + ((a + b : Nat) : Int)).toNat = b by omega, show q.toNat = 0 by omega, Nat.pow_zero, Nat.mul_one, Nat.mul_one, Nat.pow_add, Nat.mul_comm (10 ^ a), ← Nat.mul_assoc]
      exact (Nat.mul_le_mul_right_iff (ten_pos a)).symm
    · obtain ⟨a, ha⟩ : ∃ a : Nat, q + (p : Int) = -(a : Int) := ⟨(-(q + p)).toNat, by omega⟩
      rw [show (-(q + (p : Int))).toNat = a by omega, show (q + (p : Int)).toNat = 0 by omega, show q.toNat = 0 by omega, show (-q).toNat = a + p by omega, Nat.pow_zero, Nat.mul_one, Nat.pow_add, ← Nat.mul_assoc]
      exact (Nat.mul_le_mul_right_iff (ten_pos p)).symm
theorem tnG_le {N D : Nat} {e e' : Int} (h : tnG N D e) (he : e' ≤ e) : tnG N D e' := by
  obtain ⟨p, rfl⟩ : ∃ p : Nat, e = e' + p := ⟨(e - e').toNat, by omega⟩
  have := (tnG_add N D p e').1 h
  unfold tnG
  exact Nat.le_trans (Nat.le_mul_of_pos_right _ (ten_pos p)) this
/-- the first digit's place of N / D -/
def TnE (N D : Nat) (E : Int) : Prop := tnG N D E ∧ ¬ tnG N D (E + 1)
theorem TnE.only {N D : Nat} {E E' : Int} (h : TnE N D E) (h' : TnE N D E') : E = E' := by
  rcases Int.lt_trichotomy E E' with q | q | q
  · exact absurd (tnG_le h'.1 (by omega)) h.2
  · exact q
  · exact absurd (tnG_le h.1 (by omega)) h'.2
/-- the exponent that rounding starts from -/
def dkQ (f : DF) (E : Int) : Int := max f.l (E - 3 * f.j)
def dkA (N : Nat) (q : Int) : Nat := N * 10 ^ (-q).toNat
def dkZ (D : Nat) (q : Int) : Nat := D * 10 ^ q.toNat
theorem dkZ_pos {D : Nat} (h : 0 < D) (q : Int) : 0 < dkZ D q := Nat.mul_pos h (ten_pos _)
/-- the fraction has at most so many digits ahead of the point -/
theorem dk_lt {f : DF} {N D : Nat} {E : Int} (h : TnE N D E) : dkA N (dkQ f E) < dkZ D (dkQ f E) * 10 ^ (3 * f.j + 1) := by
  have hq : E + 1 ≤ dkQ f E + ((3 * f.j + 1 : Nat) : Int) := by unfold dkQ; omega
  have h1 : ¬ tnG N D (dkQ f E + ((3 * f.j + 1 : Nat) : Int)) := fun q => h.2 (tnG_le q hq)
  rw [tnG_add] at h1
  unfold dkA dkZ
  omega
/-- the whole number that a direction takes -/
def dkC0 (f : DF) (d : Int) (s : Bool) (N D : Nat) (E : Int) : Nat := whC d s (dkA N (dkQ f E)) (dkZ D (dkQ f E))
theorem whC_le {d : Int} {s : Bool} {A B : Nat} : A / B ≤ whC d s A B ∧ whC d s A B ≤ A / B + 1 := by
  unfold whC
  split <;> omega
theorem dkC0_le {f : DF} {d : Int} {s : Bool} {N D : Nat} {E : Int} (hD : 0 < D) (h : TnE N D E) : dkC0 f d s N D E ≤ 10 ^ (3 * f.j + 1) := by
  have h1 := dk_lt (f := f) h
  have h2 := (whC_le (d := d) (s := s) (A := dkA N (dkQ f E)) (B := dkZ D (dkQ f E))).2
  have h3 : dkA N (dkQ f E) / dkZ D (dkQ f E) < 10 ^ (3 * f.j + 1) := by
    rw [Nat.div_lt_iff_lt_mul (dkZ_pos hD _), Nat.mul_comm]; exact h1
  unfold dkC0
  omega
/-- exactly -/
def dkX (f : DF) (N D : Nat) (E : Int) : Bool := decide (dkA N (dkQ f E) % dkZ D (dkQ f E) = 0)
/-- behind a carry -/
def dkC (f : DF) (d : Int) (s : Bool) (N D : Nat) (E : Int) : Nat := if 10 ^ (3 * f.j + 1) ≤ dkC0 f d s N D E then 10 ^ (3 * f.j) else dkC0 f d s N D E
def dkE (f : DF) (d : Int) (s : Bool) (N D : Nat) (E : Int) : Int := if 10 ^ (3 * f.j + 1) ≤ dkC0 f d s N D E then dkQ f E + 1 else dkQ f E
/-- the greatest exponent -/
def DF.m (f : DF) : Int := f.l + 3 * 2 ^ f.w - 1
/-- of a cohort the member nearest to an exponent -/
def mbr (m want : Int) : Nat → Nat → Int → Nat × Int
  | 0, c, q => (c, q)
  | k + 1, c, q => if q < want ∧ q < m ∧ c % 10 = 0 then mbr m want k (c / 10) (q + 1) else (c, q)
def dkM (f : DF) (d : Int) (s : Bool) (N D : Nat) (E want : Int) : Nat × Int := mbr f.m want (f.m - dkE f d s N D E).toNat (dkC f d s N D E) (dkE f d s N D E)
/-- what a fraction that isn't 0 is rounded to, and the flags -/
def dkD (f : DF) (d : Int) (s : Bool) (N D : Nat) (E want : Int) : Dat :=
  if f.m < dkE f d s N D E then (if inB d s then ⟨2, s, false, 0, 0⟩ else ⟨1, s, false, f.m, 10 ^ (3 * f.j + 1) - 1⟩)
  else if dkX f N D E then ⟨1, s, false, (dkM f d s N D E want).2, (dkM f d s N D E want).1⟩ else ⟨1, s, false, dkE f d s N D E, dkC f d s N D E⟩
def dkF (f : DF) (d : Int) (s : Bool) (N D : Nat) (E : Int) : Int :=
  if f.m < dkE f d s N D E then 10 else if dkX f N D E then 0 else if E < f.l + 3 * f.j then 12 else 8
theorem dkC_lt {f : DF} {d : Int} {s : Bool} {N D : Nat} {E : Int} (hD : 0 < D) (h : TnE N D E) : dkC f d s N D E < 10 ^ (3 * f.j + 1) := by
  have h1 := dkC0_le (f := f) (d := d) (s := s) hD h
  have h2 : (10 : Nat) ^ (3 * f.j) < 10 ^ (3 * f.j + 1) := Nat.pow_lt_pow_right (by decide) (by omega)
  unfold dkC
  split <;> omega
theorem dkE_ge (f : DF) (d : Int) (s : Bool) (N D : Nat) (E : Int) : f.l ≤ dkE f d s N D E := by
  unfold dkE dkQ
  split <;> omega
/-- members: the value stays, the coefficient is no greater, the exponent within the bounds -/
theorem mbr_all {m want : Int} : ∀ (k c : Nat) (q : Int), q ≤ m → (mbr m want k c q).1 ≤ c ∧ q ≤ (mbr m want k c q).2 ∧ (mbr m want k c q).2 ≤ m ∧ (mbr m want k c q).1 * 10 ^ ((mbr m want k c q).2 - q).toNat = c
  | 0, c, q, hq => by
    unfold mbr
    refine ⟨Nat.le_refl _, Int.le_refl _, hq, ?_⟩
    simp
  | k + 1, c, q, hq => by
    unfold mbr
    split
    · rename_i h
      obtain ⟨h1, h2, h3, h4⟩ := mbr_all (m := m) (want := want) k (c / 10) (q + 1) (by omega)
      refine ⟨by omega, by omega, h3, ?_⟩
      rw [show ((mbr m want k (c / 10) (q + 1)).2 - q).toNat = ((mbr m want k (c / 10) (q + 1)).2 - (q + 1)).toNat + 1 by omega, Nat.pow_succ, ← Nat.mul_assoc, h4]
      omega
    · refine ⟨Nat.le_refl _, Int.le_refl _, hq, ?_⟩
      simp
/-- what is rounded is the format's -/
theorem dkD_is {f : DF} (hf : f.ok) {d : Int} {s : Bool} {N D : Nat} {E want : Int} (hD : 0 < D) (h : TnE N D E) : vI f (dkD f d s N D E want) := by
  have hc := dkC_lt (f := f) (d := d) (s := s) hD h
  have he := dkE_ge f d s N D E
  have hp := ten_pos (3 * f.j + 1)
  have hw : (0 : Int) < 2 ^ f.w := Int.pow_pos (by decide)
  unfold dkD
  split
  · split
    · exact Or.inr (Or.inl ⟨rfl, rfl, rfl, rfl⟩)
    · refine Or.inl ⟨rfl, rfl, ?_, ?_, ?_⟩
      · show 10 ^ (3 * f.j + 1) - 1 < 10 ^ (3 * f.j + 1)
        omega
      · show f.l ≤ f.m
        unfold DF.m; omega
      · show f.m ≤ f.l + 3 * 2 ^ f.w - 1
        exact Int.le_refl _
  · rename_i hm
    split
    · obtain ⟨h1, h2, h3, h4⟩ := mbr_all (m := f.m) (want := want) (f.m - dkE f d s N D E).toNat (dkC f d s N D E) (dkE f d s N D E) (by omega)
      refine Or.inl ⟨rfl, rfl, ?_, ?_, ?_⟩
      · show (dkM f d s N D E want).1 < 10 ^ (3 * f.j + 1)
        unfold dkM; omega
      · show f.l ≤ (dkM f d s N D E want).2
        unfold dkM; omega
      · show (dkM f d s N D E want).2 ≤ f.l + 3 * 2 ^ f.w - 1
        unfold dkM; exact h3
    · exact Or.inl ⟨rfl, rfl, hc, he, by show dkE f d s N D E ≤ f.m; omega⟩
end Go.Proofs.YtmommdhnogogdaaDoor

namespace Go.Proofs.YtmommdhnogogdaaDoor
open Go.RowKit

theorem whC_exact (d : Int) (s : Bool) {B : Nat} (hB : 0 < B) (c : Nat) : whC d s (B * c) B = c := by
  unfold whC faB
  rw [Nat.mul_mod_right, if_pos rfl, Nat.mul_div_cancel_left _ hB]
  simp
theorem whC_mul (d : Int) (s : Bool) (A B : Nat) {k : Nat} (hk : 0 < k) : whC d s (A * k) (B * k) = whC d s A B := by
  unfold whC
  rw [Nat.mul_div_mul_right _ _ hk, Nat.mul_mod_mul_right, fa_sc _ _ _ _ _ _ hk]
/-- Up and Down change with the sign -/
def swD (d : Int) : Int := if d = 3 ∨ d = 4 then 7 - d else d
theorem inB_turn (d : Int) (s : Bool) : inB (swD d) (!s) = inB d s := by
  by_cases h : d = 3 ∨ d = 4
  · rcases h with rfl | rfl <;> cases s <;> decide
  · rw [show swD d = d from if_neg h]
    unfold inB
    rw [if_neg (show ¬ d = 3 by omega), if_neg (show ¬ d = 4 by omega), if_neg (show ¬ d = 3 by omega), if_neg (show ¬ d = 4 by omega)]
theorem faB_turn (d : Int) (s o : Bool) (R D : Nat) : faB (swD d) (!s) o R D = faB d s o R D := by
  unfold faB
  rw [inB_turn]
  unfold swD
  by_cases h : d = 3 ∨ d = 4
  · rw [if_pos h]
    rw [if_neg (show ¬ 7 - d = 0 by omega), if_neg (show ¬ 7 - d = 1 by omega), if_neg (show ¬ d = 0 by omega), if_neg (show ¬ d = 1 by omega)]
  · rw [if_neg h]
theorem dkC0_turn (f : DF) (d : Int) (s : Bool) (N D : Nat) (E : Int) : dkC0 f (swD d) (!s) N D E = dkC0 f d s N D E := by
  unfold dkC0 whC
  rw [faB_turn]
theorem dk_turn (f : DF) (d : Int) (s : Bool) (N D : Nat) (E want : Int) : dkD f (swD d) (!s) N D E want = ⟨(dkD f d s N D E want).c, !s, (dkD f d s N D E want).g, (dkD f d s N D E want).x, (dkD f d s N D E want).k⟩ ∧ dkF f (swD d) (!s) N D E = dkF f d s N D E ∧ (dkD f d s N D E want).s = s := by
  unfold dkD dkF dkM dkE dkC
  rw [dkC0_turn, inB_turn]
  refine ⟨?_, rfl, ?_⟩
  · (repeat' split) <;> rfl
  · (repeat' split) <;> rfl
/-- a greater fraction is never rounded to a less whole number -/
theorem whC_mono {d : Int} {s : Bool} {A A' B : Nat} (hB : 0 < B) (h : A ≤ A') : whC d s A B ≤ whC d s A' B := by
  have hq : A / B ≤ A' / B := Nat.div_le_div_right h
  rcases Nat.lt_or_ge (A / B) (A' / B) with q | q
  · exact Nat.le_trans (whC_le (d := d) (s := s) (A := A) (B := B)).2 (Nat.le_trans q (whC_le (d := d) (s := s) (A := A') (B := B)).1)
  · have e : A / B = A' / B := Nat.le_antisymm hq q
    have hr : A % B ≤ A' % B := by
      have h1 := Nat.div_add_mod A B
      have h2 := Nat.div_add_mod A' B
      rw [e] at h1
      omega
    unfold whC
    rw [e]
    by_cases hf : faB d s (decide (A' / B % 2 = 1)) (A % B) B = true
    · rw [if_pos hf, if_pos]
      · exact Nat.le_refl _
      · unfold faB at hf ⊢
        by_cases h0 : A % B = 0
        · rw [if_pos h0] at hf; cases hf
        · rw [if_neg h0] at hf
          rw [if_neg (by omega)]
          by_cases d0 : d = 0
          · rw [if_pos d0] at hf ⊢
            rw [Bool.or_eq_true, Bool.and_eq_true, decide_eq_true_eq, decide_eq_true_eq] at hf ⊢
            rcases hf with q | ⟨q1, q2⟩
            · exact Or.inl (by omega)
            · rcases Nat.lt_or_ge B (A' % B + A' % B) with r | r
              · exact Or.inl r
              · exact Or.inr ⟨by omega, q2⟩
          · rw [if_neg d0] at hf ⊢
            by_cases d1 : d = 1
            · rw [if_pos d1, decide_eq_true_eq] at hf ⊢
              omega
            · rw [if_neg d1] at hf ⊢
              exact hf
    · rw [if_neg hf]
      split <;> omega
/-- a whole number's first digit -/
theorem dkC0_ge {f : DF} {d : Int} {s : Bool} {N D : Nat} {E : Int} (hD : 0 < D) (h : TnE N D E) (hq : dkQ f E = E - 3 * f.j) : 10 ^ (3 * f.j) ≤ dkC0 f d s N D E := by
  have h1 := h.1
  rw [show E = dkQ f E + ((3 * f.j : Nat) : Int) by rw [hq]; omega, tnG_add] at h1
  refine Nat.le_trans ?_ (whC_le (d := d) (s := s)).1
  rw [Nat.le_div_iff_mul_le (dkZ_pos hD _), Nat.mul_comm]
  exact h1
theorem TnE_mono {N N' D : Nat} {E E' : Int} (hN : N ≤ N') (h : TnE N D E) (h' : TnE N' D E') : E ≤ E' := by
  rcases Int.lt_or_le E' E with q | q
  · exfalso
    refine h'.2 ?_
    have h1 := tnG_le h.1 (show E' + 1 ≤ E by omega)
    unfold tnG at h1 ⊢
    exact Nat.le_trans h1 (Nat.mul_le_mul_right _ hN)
  · exact q
/-- what is rounded, in units of the least exponent: it rises -/
theorem dkC0_rises {f : DF} {d : Int} {s : Bool} {N N' D : Nat} {E E' : Int} (hD : 0 < D) (hN : N ≤ N') (h : TnE N D E) (h' : TnE N' D E') :
    (dkQ f E = dkQ f E' ∧ dkC0 f d s N D E ≤ dkC0 f d s N' D E') ∨ (dkQ f E < dkQ f E' ∧ 10 ^ (3 * f.j) ≤ dkC0 f d s N' D E' ∧ dkC0 f d s N D E ≤ 10 ^ (3 * f.j + 1)) := by
  have hEE := TnE_mono hN h h'
  have hle : dkQ f E ≤ dkQ f E' := by unfold dkQ; omega
  rcases Int.lt_or_le (dkQ f E) (dkQ f E') with q | q
  · refine Or.inr ⟨q, dkC0_ge hD h' ?_, dkC0_le hD h⟩
    unfold dkQ at q ⊢
    omega
  · have e : dkQ f E = dkQ f E' := by omega
    refine Or.inl ⟨e, ?_⟩
    unfold dkC0
    rw [e]
    exact whC_mono (dkZ_pos hD _) (Nat.mul_le_mul_right _ hN)
end Go.Proofs.YtmommdhnogogdaaDoor
