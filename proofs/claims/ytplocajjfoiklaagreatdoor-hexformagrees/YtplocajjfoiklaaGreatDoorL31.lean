/-
  Texts that the proof leans on, joined: Ya, Mz, My.
-/
import Derived.Test.YtplocajjfoiklaaGreatDoorL25
import Derived.Test.YtplocajjfoiklaaGreatDoorL28
import Derived.Test.YtplocajjfoiklaaGreatDoorL30
import Derived.Test.YtplocajjfoiklaaGreatDoorL9
import Derived.Test.YtplocajjfoiklaaGreatDoorL8
import Derived.Test.YtplocajjfoiklaaGreatDoorL12
set_option linter.unusedVariables false
set_option linter.unusedSimpArgs false
set_option linter.unusedSectionVars false
namespace Go.Proofs.YtplocajjfoiklaaGreatDoor
open Go.RowKit

theorem ld_sc {N D c : Nat} (hN : N ≠ 0) (hD : D ≠ 0) (hc : 0 < c) : ld (N * c) (D * c) = ld N D := by
  have hNc : N * c ≠ 0 := Nat.mul_ne_zero hN (by omega)
  have hDc : D * c ≠ 0 := Nat.mul_ne_zero hD (by omega)
  obtain ⟨K, hK⟩ : ∃ K : Nat, K = bl D + bl N + bl (D * c) + bl (N * c) + 2 := ⟨_, rfl⟩
  obtain ⟨h1, h2⟩ := ld_bd hN hD K (by omega)
  obtain ⟨g1, g2⟩ := ld_bd hNc hDc K (by omega)
  have l1 : (bl N : Int) - bl D - 1 ≤ ld N D ∧ ld N D ≤ (bl N : Int) - bl D := by unfold ld; dsimp only; split <;> omega
  have l2 : (bl (N * c) : Int) - bl (D * c) - 1 ≤ ld (N * c) (D * c) ∧ ld (N * c) (D * c) ≤ (bl (N * c) : Int) - bl (D * c) := by unfold ld; dsimp only; split <;> omega
  rw [Nat.mul_right_comm D, Nat.mul_right_comm N] at g1 g2
  have g1' := Nat.le_of_mul_le_mul_right g1 hc
  have g2' := Nat.lt_of_mul_lt_mul_right g2
  have a1 := Nat.lt_of_mul_lt_mul_left (Nat.lt_of_le_of_lt h1 g2')
  have a2 := Nat.lt_of_mul_lt_mul_left (Nat.lt_of_le_of_lt g1' h2)
  have b1 := (Nat.pow_lt_pow_iff_right (by decide : 1 < 2)).1 a1
  have b2 := (Nat.pow_lt_pow_iff_right (by decide : 1 < 2)).1 a2
  omega
theorem nr_sc (d : Int) (s : Bool) (N D : Nat) {c : Nat} (hc : 0 < c) (k : Int) : nrC d s (N * c) (D * c) k = nrC d s N D k ∧ (nrR (N * c) (D * c) k = 0 ↔ nrR N D k = 0) := by
  have eq : nrQ (N * c) (D * c) k = nrQ N D k := by
    unfold nrQ
    rw [Nat.mul_right_comm N, Nat.mul_right_comm D, Nat.mul_div_mul_right _ _ hc]
  have er : nrR (N * c) (D * c) k = nrR N D k * c := by
    unfold nrR
    rw [Nat.mul_right_comm N, Nat.mul_right_comm D, Nat.mul_mod_mul_right]
  have ef : nrF d s (N * c) (D * c) k = nrF d s N D k := by
    unfold nrF
    rw [eq, er, Nat.mul_right_comm D, fa_sc d s _ _ _ c hc]
  refine ⟨?_, ?_⟩
  · unfold nrC
    rw [ef, eq]
  · rw [er]
    refine ⟨fun h => ?_, fun h => by rw [h, Nat.zero_mul]⟩
    rcases Nat.mul_eq_zero.1 h with h | h
    · exact h
    · omega
/-- reduced or not, a fraction is rounded alike -/
theorem rd_sc (n d : Int) (s : Bool) (N : Nat) {D c : Nat} (hD : D ≠ 0) (hc : 0 < c) (x : Int) : rdV n d s (N * c) (D * c) x = rdV n d s N D x ∧ rdF n d s (N * c) (D * c) x = rdF n d s N D x := by
  by_cases hN : N = 0
  · subst hN
    rw [Nat.zero_mul]
    exact ⟨by unfold rdV; rw [if_pos rfl, if_pos rfl], by unfold rdF; rw [if_pos rfl, if_pos rfl]⟩
  have hNc : N * c ≠ 0 := Nat.mul_ne_zero hN (by omega)
  have el := ld_sc hN hD hc
  have eX : rX n (N * c) (D * c) x = rX n N D x := by unfold rX; rw [el]
  have eQ : rQ n (N * c) (D * c) x = rQ n N D x := by unfold rQ; rw [el, eX]
  have eC : rC n d s (N * c) (D * c) x = rC n d s N D x := by unfold rC; rw [eX, eQ]; exact (nr_sc d s N D hc _).1
  have eR := (nr_sc d s N D hc (rX n N D x - rQ n N D x)).2
  have eC' : rC' n d s (N * c) (D * c) x = rC' n d s N D x := by unfold rC'; rw [eC]
  have eQ' : rQ' n d s (N * c) (D * c) x = rQ' n d s N D x := by unfold rQ'; rw [eC, eQ]
  refine ⟨?_, ?_⟩
  · unfold rdV
    rw [if_neg hN, if_neg hNc, eC', eQ']
  · unfold rdF
    rw [if_neg hN, if_neg hNc, eQ', eX, eQ, el]
    simp only [eR]

end Go.Proofs.YtplocajjfoiklaaGreatDoor

set_option maxRecDepth 20000
namespace Go.Proofs.YtplocajjfoiklaaGreatDoor
open Go.RowKit

theorem numV_nv (l : List UInt8) : ∀ k, k ≤ l.length → numV (B l) k = nv (l.take k)
  | 0, _ => rfl
  | k + 1, h => by
    rw [nv_take (by omega), ← numV_nv l k (by omega), ← sb_by]
    show numV (B l) k * 10 + (sb (B l) k - 48) = _
    omega
theorem dV_nv (l : List UInt8) : dV l = (nv l).toNat := by
  unfold dV
  rw [B_size, numV_nv l l.length (Nat.le_refl _), List.take_length]
/-- digits and an exponent, cut up -/
theorem cut_pl (s : Bool) {T : List UInt8} {e : Int} (hT : T.all dg = true) (h0 : T ≠ []) (hl : T.length ≤ 1000) (he : -100000 ≤ e ∧ e ≤ 100000) :
    cutP (sgL s ++ (T ++ 101 :: Lib.itoa e)) = some ⟨1, s, false, bar T, e⟩ := by
  obtain ⟨x1, x2, x3, x4, x5⟩ := ex_any e (by omega)
  obtain ⟨d1, d2⟩ := dgs_app2 (m := 101 :: Lib.itoa e) hT x4
  have f1 : frac (T ++ 101 :: Lib.itoa e) = [] := by unfold frac; rw [d2, x3]; rfl
  have f2 : behind (T ++ 101 :: Lib.itoa e) = 101 :: Lib.itoa e := by unfold behind; rw [d2, x3]; rfl
  have k1 : finB (T ++ 101 :: Lib.itoa e) = true := by
    unfold finB
    rw [f1, f2, x1, d1]
    cases T with
    | nil => exact absurd rfl h0
    | cons y ys => rfl
  have k2 : finD (T ++ 101 :: Lib.itoa e) = bar T := by unfold finD; rw [f1, d1, List.append_nil]
  have k3 : finE (T ++ 101 :: Lib.itoa e) = e := by
    unfold finE
    rw [f1, f2, x2]
    have e0 : e - ((([] : List UInt8).length : Nat) : Int) = e := by show e - 0 = e; omega
    rw [e0]
    exact clamp_id (by omega)
  have hi := itoa_short he
  unfold cutP
  have hs : (sgL s ++ (T ++ 101 :: Lib.itoa e)).length ≤ 4000 := by
    rw [List.length_append, List.length_append, List.length_cons]
    have : (sgL s).length ≤ 1 := by cases s <;> decide
    omega
  rw [if_neg (by omega)]
  cases T with
  | nil => exact absurd rfl h0
  | cons c r =>
    have hc : dg c = true := by rw [List.all_cons, Bool.and_eq_true] at hT; exact hT.1
    have hcn := dg_nat hc
    obtain ⟨g1, g2⟩ := sig_app s c (r ++ 101 :: Lib.itoa e) ⟨by omega, by omega⟩
    rw [show gsgB (sgL s ++ (c :: r ++ 101 :: Lib.itoa e)) = s from g1, show sgR (sgL s ++ (c :: r ++ 101 :: Lib.itoa e)) = c :: r ++ 101 :: Lib.itoa e from g2]
    unfold bodP
    rw [if_pos k1, k2, k3]
/-- the decimal text's value -/
theorem ag_pos {n d : Int} (s : Bool) {T : List UInt8} {k : Nat} (hT : T.all dg = true) (hl : T.length ≤ 1000) (hv : nv T = ((2 ^ k : Nat) : Int)) : mkV n d ⟨1, s, false, bar T, 0⟩ = rdV n d s 1 1 k ∧ mkF n d ⟨1, s, false, bar T, 0⟩ = rdF n d s 1 1 k := by
  have hb := bar_le T
  have hA : dV (bar T) = 2 ^ k := by rw [dV_nv, nv_bar, hv]; rfl
  have hp : pwE (bar T).length 0 = 0 := by unfold pwE; omega
  obtain ⟨s1, s2⟩ := rd_shift n d s 1 (D := 1) (by decide) k 0 0
  rw [Nat.one_mul, Nat.pow_zero, Nat.mul_one, show (0 : Int) + ((k : Int) - ((0 : Nat) : Int)) = k by omega] at s1 s2
  unfold mkV mkF
  rw [if_pos rfl, if_pos rfl]
  dsimp only
  rw [hp, hA, show tN (2 ^ k) 0 = 2 ^ k by unfold tN; simp, show tD 0 = 1 by decide]
  exact ⟨s1, s2⟩
theorem ag_neg {n d : Int} (s : Bool) {T : List UInt8} {j : Nat} (hj : j ≤ 200) (hT : T.all dg = true) (hl : T.length ≤ 1000) (hv : nv T = ((5 ^ j : Nat) : Int)) : mkV n d ⟨1, s, false, bar T, -(j : Int)⟩ = rdV n d s 1 1 (-(j : Int)) ∧ mkF n d ⟨1, s, false, bar T, -(j : Int)⟩ = rdF n d s 1 1 (-(j : Int)) := by
  have hb := bar_le T
  have hA : dV (bar T) = 5 ^ j := by rw [dV_nv, nv_bar, hv]; rfl
  have hp : pwE (bar T).length (-(j : Int)) = -(j : Int) := by unfold pwE; omega
  have e1 : tN (5 ^ j) (-(j : Int)) = 1 * 5 ^ j := by
    unfold tN
    rw [show (-(j : Int)).toNat = 0 by omega, Nat.pow_zero, Nat.mul_one, Nat.one_mul]
  have e2 : tD (-(j : Int)) = 1 * 5 ^ j := by
    unfold tD
    rw [show (- -(j : Int)).toNat = j by omega, Nat.one_mul]
  obtain ⟨s1, s2⟩ := rd_sc n d s 1 (D := 1) (c := 5 ^ j) (by decide) (Nat.pow_pos (by decide)) (-(j : Int))
  unfold mkV mkF
  rw [if_pos rfl, if_pos rfl]
  dsimp only
  rw [hp, hA, e1, e2]
  exact ⟨s1, s2⟩
/-- the hexadecimal one's -/
theorem ag_hex {n d : Int} (s : Bool) {k : Int} (hk : -40000 ≤ k ∧ k ≤ 40000) (hb : binN n) (hd : knB d) (w : World) (hT : Tab w) :
    Calls Tryz.prog 11 #[.int .i64 n, .int .i64 d, .string (B ((sgL s ++ [48, 120, 49, 112]) ++ Lib.itoa k))] w fun r w' => r = .returned (.tuple #[A4 (rdV n d s 1 1 k), .int .i64 (rdF n d s 1 1 k), .int .i64 0]) ∧ Below w.heap.size w w' := by
  obtain ⟨x1, x2⟩ := it_exp k (by omega)
  have hi := itoa_short (e := k) (by omega)
  have e : (sgL s ++ [48, 120, 49, 112]) ++ Lib.itoa k = (if s then [45] else []) ++ 48 :: 120 :: ([49] ++ 112 :: Lib.itoa k) := by
    rw [List.append_assoc]
    rfl
  obtain ⟨g1, g2⟩ := sgL_app s ([49] ++ 112 :: Lib.itoa k)
  have hsm : sml ([49] ++ 112 :: Lib.itoa k) = [49] ++ 112 :: Lib.itoa k := by
    rw [sml_app, show sml [49] = [49] from rfl, sml_cons, sml_it]
    rfl
  rw [hsm] at g2
  have hx : hxR ([49] ++ 112 :: Lib.itoa k) = some (1, k) := by
    rw [hxR_n rfl (by decide) x1, x2, show hxV [49] = 1 by decide]
    congr 2
    omega
  rw [e]
  refine xread_v hb hd ?_ g1 g2 hx w hT
  rw [List.length_append]
  have : ((if s then [45] else []) : List UInt8).length ≤ 1 := by cases s <;> decide
  simp only [List.length_cons, List.length_append, List.length_nil]
  omega
end Go.Proofs.YtplocajjfoiklaaGreatDoor

namespace Go.Proofs.YtplocajjfoiklaaGreatDoor
open Go.RowKit

/-- digits as bytes -/
def DgF (x : Nat → Int) (n : Nat) : Prop := ∀ j, j < n → 48 ≤ x j ∧ x j ≤ 57
/-- the number of the last k of n digits, and of the first k -/
def tlV (x : Nat → Int) (n : Nat) : Nat → Int
  | 0 => 0
  | k + 1 => (x (n - 1 - k) - 48) * 10 ^ k + tlV x n k
def hdV (x : Nat → Int) : Nat → Int
  | 0 => 0
  | k + 1 => 10 * hdV x k + (x k - 48)
theorem tlV_congr {x y : Nat → Int} {n : Nat} : ∀ k, k ≤ n → (∀ j, n - k ≤ j → j < n → x j = y j) → tlV x n k = tlV y n k
  | 0, _, _ => rfl
  | k + 1, h, e => by
    unfold tlV
    rw [e (n - 1 - k) (by omega) (by omega), tlV_congr k (by omega) fun j h1 h2 => e j (by omega) h2]
theorem hdV_congr {x y : Nat → Int} : ∀ k, (∀ j, j < k → x j = y j) → hdV x k = hdV y k
  | 0, _ => rfl
  | k + 1, e => by
    unfold hdV
    rw [e k (by omega), hdV_congr k fun j h => e j (by omega)]
/-- bytes that are digits, as a list -/
def dgL (x : Nat → Int) (n : Nat) : List UInt8 := (List.range n).map fun j => UInt8.ofNat (x j).toNat
theorem dgL_len (x : Nat → Int) (n : Nat) : (dgL x n).length = n := by unfold dgL; simp
theorem dgL_by {x : Nat → Int} {n j : Nat} (h : DgF x n) (hj : j < n) : by_ (dgL x n) j = x j := by
  have hb := h j hj
  unfold by_
  rw [dif_pos (by rw [dgL_len]; exact hj)]
  unfold dgL
  rw [List.getElem_map, List.getElem_range]
  rw [show (UInt8.ofNat (x j).toNat).toNat = (x j).toNat by simp; omega]
  omega
theorem by_dg {l : List UInt8} (h : l.all dg = true) : DgF (by_ l) l.length := fun j hj => (all_dg l).1 h j hj
theorem dgL_all {x : Nat → Int} {n : Nat} (h : DgF x n) : (dgL x n).all dg = true := by
  rw [all_dg]
  intro i hi
  rw [dgL_len] at hi
  rw [dgL_by h hi]
  exact h i hi
theorem nv_cons (c : UInt8) (r : List UInt8) : nv (c :: r) = ((c.toNat : Int) - 48) * 10 ^ r.length + nv r := by
  rw [show c :: r = [c] ++ r from rfl, nv_app, gnv_one]
theorem nv_tl (l : List UInt8) : ∀ k, k ≤ l.length → nv (l.drop (l.length - k)) = tlV (by_ l) l.length k
  | 0, _ => by rw [Nat.sub_zero, List.drop_length]; rfl
  | k + 1, h => by
    have hi : l.length - (k + 1) < l.length := by omega
    rw [List.drop_eq_getElem_cons hi, nv_cons, show l.length - (k + 1) + 1 = l.length - k by omega, nv_tl l k (by omega), List.length_drop]
    show _ = (by_ l (l.length - 1 - k) - 48) * 10 ^ k + tlV (by_ l) l.length k
    have : by_ l (l.length - 1 - k) = ((l[l.length - (k + 1)]'hi).toNat : Int) := by
      unfold by_
      rw [dif_pos (by omega)]
      congr 3
      omega
    rw [this, show l.length - (l.length - k) = k by omega]
theorem nv_tlV (l : List UInt8) : nv l = tlV (by_ l) l.length l.length := by
  have := nv_tl l l.length (Nat.le_refl _)
  rwa [Nat.sub_self, List.drop_zero] at this
theorem nv_hd (l : List UInt8) : ∀ k, k ≤ l.length → nv (l.take k) = hdV (by_ l) k
  | 0, _ => rfl
  | k + 1, h => by rw [nv_take (by omega), nv_hd l k (by omega)]; rfl
theorem nv_hdV (l : List UInt8) : nv l = hdV (by_ l) l.length := by
  have := nv_hd l l.length (Nat.le_refl _)
  rwa [List.take_length] at this
/-- a digit is written -/
def putF (x : Nat → Int) (i : Nat) (v : Int) : Nat → Int := fun j => if j = i then v else x j
theorem putF_at (x : Nat → Int) (i : Nat) (v : Int) : putF x i v i = v := if_pos rfl
theorem putF_ne (x : Nat → Int) {i j : Nat} (v : Int) (h : j ≠ i) : putF x i v j = x j := if_neg h
theorem putF_dg {x : Nat → Int} {n i : Nat} {v : Int} (h : DgF x n) (hv : 48 ≤ v ∧ v ≤ 57) : DgF (putF x i v) n := fun j hj => by
  unfold putF
  split
  · exact hv
  · exact h j hj
/-- the sum's end: a one ahead, or none -/
theorem dsum_end {y : Nat → Int} {n : Nat} {c S : Int} (hD : DgF y n) (hc : c = 0 ∨ c = 1) (hv : tlV y n n + c * 10 ^ n = S) : ∃ l' : List UInt8, l' = (if 0 < c then [49] ++ dgL y n else dgL y n) ∧ l'.all dg = true ∧ l'.length ≤ n + 1 ∧ n ≤ l'.length ∧ nv l' = S := by
  have hnv : nv (dgL y n) = tlV y n n := by
    rw [nv_tlV, dgL_len, tlV_congr (x := by_ (dgL y n)) (y := y) n (Nat.le_refl _) fun j _ hj => dgL_by hD hj]
  refine ⟨_, rfl, ?_⟩
  rcases hc with rfl | rfl
  · rw [if_neg (by decide)]
    exact ⟨dgL_all hD, by rw [dgL_len]; omega, by rw [dgL_len]; omega, by rw [hnv, ← hv]; simp⟩
  · rw [if_pos (by decide)]
    refine ⟨by rw [List.all_append, dgL_all hD]; rfl, by rw [List.length_append, dgL_len]; simp; omega, by rw [List.length_append, dgL_len]; omega, ?_⟩
    rw [nv_app, dgL_len, hnv, show nv [49] = 1 by decide, ← hv]
    omega
section
variable (l : List UInt8) (w : World) (hl : l.length ≤ 1000) (hd : l.all dg = true)
include hl hd
/-- the start: the text's bytes in a row of one's own -/
theorem by_start : ∃ cap W, (convert 9 81 (.string (B l))).run Tryz.prog w = .ok (.slice (some ⟨w.heap.size, 0, none⟩) l.length cap) W ∧ By w.heap.size l.length (by_ l) W ∧ Below w.heap.size w W := by
  have hcv := run_bytes_of_string (P := Tryz.prog) w 9 81 5 (B l) Tryz.underlying9 Tryz.underlying81 Tryz.underlying5
  rw [B_size l] at hcv
  exact ⟨_, _, hcv, By.of, (Below.refl _ _).drew.alloc (Nat.le_refl _) _⟩
set_option maxHeartbeats 4000000 in
theorem half_v : Calls Tryz.prog 19 #[.string (B l)] w fun e w' => ∃ l', e = .returned (.string (B l')) ∧ l'.all dg = true ∧ l'.length = l.length ∧ (∃ r, 0 ≤ r ∧ r < 4 ∧ nv l = 4 * nv l' + r) ∧ Below w.heap.size w w' := by
  obtain ⟨cap, W, hcv, HY, HB⟩ := by_start l w hl hd
  have hx := by_dg hd
  have HV : Hid (nv l = hdV (by_ l) l.length) := nv_hdV l
  obtain ⟨n, hn⟩ : ∃ n, l.length = n := ⟨_, rfl⟩
  rw [hn] at hcv HY HV hx hl ⊢
  have hni : (n : Int) ≤ 1000 := by omega
  generalize by_ l = x at *
  have HX : Hid (DgF x n) := hx
  clear hx hn hd
  go_enter Tryz.func19, Tryz.ntmps19
  go_wp2
  go_loopw [4, 5, 6, 11] (fun t4 _ _ t11 wr => ∃ (k : Nat) (r : Int) (y : Nat → Int), k ≤ n ∧ t11 = .int .i64 (k : Int) ∧ t4 = .int .u8 r ∧ (0 ≤ r ∧ r < 4) ∧ By w.heap.size n y wr ∧ DgF y n ∧ (∀ j, k ≤ j → y j = x j) ∧ hdV x k = 4 * hdV y k + r ∧ Below w.heap.size w wr) (fun _ _ _ t11 _ => n - (intOf t11).toNat)
  case atStart => exact ⟨0, 0, x, Nat.zero_le _, by go_num, by go_num, by decide, HY, HX.out, fun _ _ => rfl, rfl, HB⟩
  case round =>
    clear HY HB hcv
    obtain ⟨k, r, y, hk, rfl, rfl, hr, hY, hDy, hyx, hv, hB⟩ := hrel
    by_cases hlt : k < n
    · have hki : (k : Int) < n := by omega
      have hc := hY.cell k hlt
      have hf := hY.frz k hlt
      have hbd := hDy k hlt
      obtain ⟨b, hb⟩ : ∃ b, y k = b := ⟨_, rfl⟩
      rw [hb] at hc hbd
      obtain ⟨q, hq⟩ : ∃ q, (10 * r + b - 48) / 4 = q := ⟨_, rfl⟩
      obtain ⟨s, hs⟩ : ∃ s, (10 * r + b - 48) % 4 = s := ⟨_, rfl⟩
      obtain ⟨hr0, hr1⟩ := hr
      have hqb : 0 ≤ q ∧ q ≤ 9 := by omega
      have hsb : 0 ≤ s ∧ s < 4 := by omega
      have HY : Hid (By w.heap.size n y wr) := hY
      have HB : Hid (Below w.heap.size w wr) := hB
      have HD : Hid (DgF (putF y k (48 + q)) n) := putF_dg hDy (by omega)
      have HE : Hid (∀ j, k + 1 ≤ j → putF y k (48 + q) j = x j) := fun j hj => (putF_ne _ _ (by omega)).trans (hyx j (by omega))
      have HS : Hid (hdV x (k + 1) = 4 * hdV (putF y k (48 + q)) (k + 1) + s) := by
        show _ = _
        unfold hdV
        rw [putF_at, hdV_congr (x := putF y k (48 + q)) (y := y) k (fun j hj => putF_ne _ _ (by omega)), hv, ← hyx k (Nat.le_refl _), hb]
        omega
      clear hY hB hDy hyx hv hb
      go_wp2
      go_roundw
      case rel => exact ⟨k + 1, s, putF y k (48 + q), by omega, by go_num, by go_num, hsb, HY.out.set k _, HD.out, HE.out, HS.out, HB.out.setCell (Nat.le_refl _) _⟩
      case measure => simp [intOf]; omega
    · obtain rfl : k = n := by omega
      have hbk := back_any (l := dgL y k) (cap := cap) (dgL_len y k) hY fun j hj => (dgL_by hDy hj).symm
      have HB : Hid (Below w.heap.size w wr) := hB
      have HR : Hid ((dgL y k).all dg = true ∧ (dgL y k).length = k ∧ (∃ r, 0 ≤ r ∧ r < 4 ∧ nv l = 4 * nv (dgL y k) + r)) := by
        refine ⟨dgL_all hDy, dgL_len y k, r, hr.1, hr.2, ?_⟩
        rw [HV.out, hv, nv_hdV (dgL y k), dgL_len, hdV_congr (x := by_ (dgL y k)) (y := y) k fun j hj => dgL_by hDy hj]
      clear hY hB hDy hyx hv
      generalize dgL y k = L at *
      go_wp2
      go_ret
      exact ⟨L, rfl, HR.out.1, HR.out.2.1, HR.out.2.2, HB.out⟩
set_option maxHeartbeats 4000000 in
theorem doubled_v (h0 : l ≠ []) : Calls Tryz.prog 17 #[.string (B l)] w fun e w' => ∃ l', e = .returned (.string (B l')) ∧ l'.all dg = true ∧ l'.length ≤ l.length + 1 ∧ l.length ≤ l'.length ∧ nv l' = 2 * nv l ∧ Below w.heap.size w w' := by
  obtain ⟨cap, W, hcv, HY, HB⟩ := by_start l w hl hd
  have hx := by_dg hd
  have HV : Hid (nv l = tlV (by_ l) l.length l.length) := nv_tlV l
  have hpos : 0 < l.length := List.length_pos_iff.2 h0
  obtain ⟨n, hn⟩ : ∃ n, l.length = n := ⟨_, rfl⟩
  rw [hn] at hcv HY HV hx hl hpos ⊢
  have hni : (n : Int) ≤ 1000 := by omega
  generalize by_ l = x at *
  have HX : Hid (DgF x n) := hx
  clear hx hn hd h0
  go_enter Tryz.func17, Tryz.ntmps17
  go_wp2
  go_loopw [4, 5, 6] (fun t4 t5 _ wr => ∃ (k : Nat) (c : Int) (y : Nat → Int), k ≤ n ∧ t5 = .int .i64 ((n : Int) - 1 - k) ∧ t4 = .int .u8 c ∧ (0 ≤ c ∧ c ≤ 1) ∧ By w.heap.size n y wr ∧ DgF y n ∧ (∀ j, j < n - k → y j = x j) ∧ tlV y n k + c * 10 ^ k = 2 * tlV x n k ∧ Below w.heap.size w wr) (fun _ t5 _ _ => (intOf t5 + 1).toNat)
  case atStart => exact ⟨0, 0, x, Nat.zero_le _, by go_num, by go_num, by decide, HY, HX.out, fun _ _ => rfl, rfl, HB⟩
  case round =>
    clear HY HB hcv
    obtain ⟨k, c, y, hk, ht5, rfl, hc, hY, hDy, hyx, hv, hB⟩ := hrel
    by_cases hlt : k < n
    · obtain ⟨i, hi⟩ : ∃ i, n - 1 - k = i := ⟨_, rfl⟩
      rw [show (n : Int) - 1 - k = (i : Int) by omega] at ht5
      subst ht5
      have hii : (i : Int) < n := by omega
      have hcl := hY.cell i (by omega)
      have hf := hY.frz i (by omega)
      have hbd := hDy i (by omega)
      have hxi := hyx i (by omega)
      obtain ⟨b, hb⟩ : ∃ b, y i = b := ⟨_, rfl⟩
      rw [hb] at hcl hbd hxi
      obtain ⟨q, hq⟩ : ∃ q, (2 * (b - 48) + c) / 10 = q := ⟨_, rfl⟩
      obtain ⟨s, hs⟩ : ∃ s, (2 * (b - 48) + c) % 10 = s := ⟨_, rfl⟩
      obtain ⟨hc0, hc1⟩ := hc
      have hqb : 0 ≤ q ∧ q ≤ 1 := by omega
      have hsb : 0 ≤ s ∧ s ≤ 9 := by omega
      have HY : Hid (By w.heap.size n y wr) := hY
      have HB : Hid (Below w.heap.size w wr) := hB
      have HD : Hid (DgF (putF y i (48 + s)) n) := putF_dg hDy (by omega)
      have HE : Hid (∀ j, j < n - (k + 1) → putF y i (48 + s) j = x j) := fun j hj => (putF_ne _ _ (by omega)).trans (hyx j (by omega))
      have HS : Hid (tlV (putF y i (48 + s)) n (k + 1) + q * 10 ^ (k + 1) = 2 * tlV x n (k + 1)) := by
        show (putF y i (48 + s) (n - 1 - k) - 48) * 10 ^ k + tlV (putF y i (48 + s)) n k + q * 10 ^ (k + 1) = 2 * ((x (n - 1 - k) - 48) * 10 ^ k + tlV x n k)
        rw [hi, putF_at, tlV_congr (x := putF y i (48 + s)) (y := y) k (by omega) (fun j h1 h2 => putF_ne _ _ (by omega)), ← hxi, Int.pow_succ]
        have e1 : 2 * (b - 48) + c = 10 * q + s := by omega
        generalize (10 : Int) ^ k = P at *
        have e2 : tlV y n k = 2 * tlV x n k - c * P := by omega
        rw [e2]
        have e3 : s = 2 * (b - 48) + c - 10 * q := by omega
        rw [e3]
        grind
      have HI : Hid ((n : Int) - 1 - k = i) := by show _ = _; omega
      clear hY hB hDy hyx hv hb hi hxi
      go_wp2
      go_roundw
      case rel => exact ⟨k + 1, q, putF y i (48 + s), by omega, by have := HI.out; go_num, by go_num, hqb, HY.out.set i _, HD.out, HE.out, HS.out, HB.out.setCell (Nat.le_refl _) _⟩
      case measure => first | (simp [intOf]; done) | (simp [intOf]; omega)
    · obtain rfl : k = n := by omega
      rw [show (k : Int) - 1 - k = -1 by omega] at ht5
      subst ht5
      have hbk := back_any (l := dgL y k) (cap := cap) (dgL_len y k) hY fun j hj => (dgL_by hDy hj).symm
      have HB : Hid (Below w.heap.size w wr) := hB
      obtain ⟨l', h1, h2, h3, h4, h5⟩ := dsum_end hDy (show c = 0 ∨ c = 1 by omega) hv
      have HR : Hid (l'.all dg = true ∧ l'.length ≤ k + 1 ∧ k ≤ l'.length ∧ nv l' = 2 * nv l) := ⟨h2, h3, h4, by rw [h5, HV.out]⟩
      have p0 : (⟨#[49]⟩ : ByteArray) ++ B (dgL y k) = B ([49] ++ dgL y k) := B_app [49] _
      have z0 : (B (dgL y k)).size = k := by rw [B_size, dgL_len]
      clear hY hB hDy hyx hv h2 h3 h4 h5
      generalize [49] ++ dgL y k = L1 at *
      generalize dgL y k = L0 at *
      by_cases hcp : 0 < c
      · rw [if_pos hcp] at h1
        subst h1
        go_wp2
        go_ret
        exact ⟨_, rfl, by first | exact HR.out.1 | exact List.all_eq_true.1 HR.out.1, HR.out.2.1, HR.out.2.2.1, HR.out.2.2.2, HB.out⟩
      · rw [if_neg hcp] at h1
        subst h1
        go_wp2
        go_ret
        exact ⟨_, rfl, by first | exact HR.out.1 | exact List.all_eq_true.1 HR.out.1, HR.out.2.1, HR.out.2.2.1, HR.out.2.2.2, HB.out⟩
end
section
variable (l m : List UInt8) (w : World) (hl : l.length ≤ 1000) (hd : l.all dg = true) (hm : m.length ≤ l.length) (hdm : m.all dg = true)
include hl hd hm hdm
set_option maxHeartbeats 4000000 in
theorem plus_v : Calls Tryz.prog 18 #[.string (B l), .string (B m)] w fun e w' => ∃ l', e = .returned (.string (B l')) ∧ l'.all dg = true ∧ l'.length ≤ l.length + 1 ∧ l.length ≤ l'.length ∧ nv l' = nv l + nv m ∧ Below w.heap.size w w' := by
  obtain ⟨cap, W, hcv, HY, HB⟩ := by_start l w hl hd
  have hx := by_dg hd
  have hu := by_dg hdm
  have HV : Hid (nv l = tlV (by_ l) l.length l.length) := nv_tlV l
  have HVm : Hid (nv m = tlV (by_ m) m.length m.length) := nv_tlV m
  have HIX : Hid (∀ j, j < m.length → ∀ h : j < (B m).size, (((B m)[j]'h).toNat : Int) = by_ m j) := fun j hj h => by_lt h
  have hzm : (B m).size = m.length := B_size m
  obtain ⟨n, hn⟩ : ∃ n, l.length = n := ⟨_, rfl⟩
  obtain ⟨t, ht⟩ : ∃ t, m.length = t := ⟨_, rfl⟩
  rw [hn] at hcv HY HV hx hl hm ⊢
  rw [ht] at hu HVm HIX hzm hm
  have hni : (n : Int) ≤ 1000 := by omega
  have hti : (t : Int) ≤ n := by omega
  generalize by_ l = x at *
  generalize by_ m = u at *
  generalize B m = bm at *
  have HX : Hid (DgF x n) := hx
  have HUU : Hid (DgF u t) := hu
  clear hx hu hn ht hd hdm
  go_enter Tryz.func18, Tryz.ntmps18
  go_wp2
  go_loopw [6, 7, 8, 9, 14] (fun t6 _ _ _ t14 wr => ∃ (k : Nat) (c : Int) (y : Nat → Int), k ≤ n ∧ t14 = .int .i64 (k : Int) ∧ t6 = .int .u8 c ∧ (0 ≤ c ∧ c ≤ 1) ∧ By w.heap.size n y wr ∧ DgF y n ∧ (∀ j, j < n - k → y j = x j) ∧ tlV y n k + c * 10 ^ k = tlV x n k + tlV u t (min k t) ∧ Below w.heap.size w wr) (fun _ _ _ _ t14 _ => n - (intOf t14).toNat)
  case atStart => exact ⟨0, 0, x, Nat.zero_le _, by go_num, by go_num, by decide, HY, HX.out, fun _ _ => rfl, by rw [Nat.zero_min]; rfl, HB⟩
  case round =>
    clear HY HB hcv
    obtain ⟨k, c, y, hk, rfl, rfl, hc, hY, hDy, hyx, hv, hB⟩ := hrel
    by_cases hlt : k < n
    · obtain ⟨i, hi⟩ : ∃ i, n - 1 - k = i := ⟨_, rfl⟩
      have hiI : (n : Int) - 1 - k = (i : Int) := by omega
      have hki : (k : Int) < n := by omega
      have hii : (i : Int) < n := by omega
      have hcl := hY.cell i (by omega)
      have hf := hY.frz i (by omega)
      have hbd := hDy i (by omega)
      have hxi := hyx i (by omega)
      obtain ⟨b, hb⟩ : ∃ b, y i = b := ⟨_, rfl⟩
      rw [hb] at hcl hbd hxi
      obtain ⟨hc0, hc1⟩ := hc
      have HY : Hid (By w.heap.size n y wr) := hY
      have HB : Hid (Below w.heap.size w wr) := hB
      have step : ∀ e q s : Int, 0 ≤ q → q ≤ 1 → 0 ≤ s → s ≤ 9 → b - 48 + c + e = 10 * q + s → tlV u t (min (k + 1) t) = e * 10 ^ k + tlV u t (min k t) → tlV (putF y i (48 + s)) n (k + 1) + q * 10 ^ (k + 1) = tlV x n (k + 1) + tlV u t (min (k + 1) t) := by
        intro e q s q0 q1 s0 s1 e1 eu
        show (putF y i (48 + s) (n - 1 - k) - 48) * 10 ^ k + tlV (putF y i (48 + s)) n k + q * 10 ^ (k + 1) = (x (n - 1 - k) - 48) * 10 ^ k + tlV x n k + tlV u t (min (k + 1) t)
        rw [hi, putF_at, tlV_congr (x := putF y i (48 + s)) (y := y) k (by omega) (fun j h1 h2 => putF_ne _ _ (by omega)), ← hxi, Int.pow_succ, eu]
        generalize (10 : Int) ^ k = P at *
        have e2 : tlV y n k = tlV x n k + tlV u t (min k t) - c * P := by omega
        rw [e2]
        have e3 : s = b - 48 + c + e - 10 * q := by omega
        rw [e3]
        grind
      by_cases hkt : k < t
      · obtain ⟨j, hj⟩ : ∃ j, t - 1 - k = j := ⟨_, rfl⟩
        have hjI : (t : Int) - 1 - k = (j : Int) := by omega
        have hjt : (j : Int) < t := by omega
        have hkti : (k : Int) < t := by omega
        have hju := HIX.out j (by omega) (by omega)
        have hub := HUU.out j (by omega)
        obtain ⟨a, ha⟩ : ∃ a, u j = a := ⟨_, rfl⟩
        rw [ha] at hju hub
        obtain ⟨q, hq⟩ : ∃ q, (b - 48 + c + a - 48) / 10 = q := ⟨_, rfl⟩
        obtain ⟨s, hs⟩ : ∃ s, (b - 48 + c + a - 48) % 10 = s := ⟨_, rfl⟩
        have hqb : 0 ≤ q ∧ q ≤ 1 := by omega
        have hsb : 0 ≤ s ∧ s ≤ 9 := by omega
        have HD : Hid (DgF (putF y i (48 + s)) n) := putF_dg hDy (by omega)
        have HE : Hid (∀ j, j < n - (k + 1) → putF y i (48 + s) j = x j) := fun j hj => (putF_ne _ _ (by omega)).trans (hyx j (by omega))
        have HS : Hid (tlV (putF y i (48 + s)) n (k + 1) + q * 10 ^ (k + 1) = tlV x n (k + 1) + tlV u t (min (k + 1) t)) := by
          refine step (a - 48) q s hqb.1 hqb.2 hsb.1 hsb.2 (by omega) ?_
          rw [show min (k + 1) t = k + 1 by omega, show min k t = k by omega]
          show (u (t - 1 - k) - 48) * 10 ^ k + tlV u t k = _
          rw [hj, ha]
        have hju' : ∀ h : j < bm.size, ((bm[j]'h).toNat : Int) = a := fun h => hju
        have hjs : j < bm.size := by omega
        clear hY hB hDy hyx hv hb hi hxi step hj ha hju
        go_wp2
        go_roundw
        case rel => exact ⟨k + 1, q, putF y i (48 + s), by omega, by go_num, by go_num, hqb, HY.out.set i _, HD.out, HE.out, HS.out, HB.out.setCell (Nat.le_refl _) _⟩
        case measure => simp [intOf]; omega
      · have hkti : ¬ (k : Int) < t := by omega
        obtain ⟨q, hq⟩ : ∃ q, (b - 48 + c) / 10 = q := ⟨_, rfl⟩
        obtain ⟨s, hs⟩ : ∃ s, (b - 48 + c) % 10 = s := ⟨_, rfl⟩
        have hqb : 0 ≤ q ∧ q ≤ 1 := by omega
        have hsb : 0 ≤ s ∧ s ≤ 9 := by omega
        have HD : Hid (DgF (putF y i (48 + s)) n) := putF_dg hDy (by omega)
        have HE : Hid (∀ j, j < n - (k + 1) → putF y i (48 + s) j = x j) := fun j hj => (putF_ne _ _ (by omega)).trans (hyx j (by omega))
        have HS : Hid (tlV (putF y i (48 + s)) n (k + 1) + q * 10 ^ (k + 1) = tlV x n (k + 1) + tlV u t (min (k + 1) t)) := by
          refine step 0 q s hqb.1 hqb.2 hsb.1 hsb.2 (by omega) ?_
          rw [show min (k + 1) t = t by omega, show min k t = t by omega]
          omega
        clear hY hB hDy hyx hv hb hi hxi step
        go_wp2
        go_roundw
        case rel => exact ⟨k + 1, q, putF y i (48 + s), by omega, by go_num, by go_num, hqb, HY.out.set i _, HD.out, HE.out, HS.out, HB.out.setCell (Nat.le_refl _) _⟩
        case measure => simp [intOf]; omega
    · obtain rfl : k = n := by omega
      have hbk := back_any (l := dgL y k) (cap := cap) (dgL_len y k) hY fun j hj => (dgL_by hDy hj).symm
      have HB : Hid (Below w.heap.size w wr) := hB
      obtain ⟨l', h1, h2, h3, h4, h5⟩ := dsum_end hDy (show c = 0 ∨ c = 1 by omega) hv
      have HR : Hid (l'.all dg = true ∧ l'.length ≤ k + 1 ∧ k ≤ l'.length ∧ nv l' = nv l + nv m) := ⟨h2, h3, h4, by rw [h5, HV.out, HVm.out, show min k t = t by omega]⟩
      have p0 : (⟨#[49]⟩ : ByteArray) ++ B (dgL y k) = B ([49] ++ dgL y k) := B_app [49] _
      have z0 : (B (dgL y k)).size = k := by rw [B_size, dgL_len]
      clear hY hB hDy hyx hv h2 h3 h4 h5
      generalize [49] ++ dgL y k = L1 at *
      generalize dgL y k = L0 at *
      by_cases hcp : 0 < c
      · rw [if_pos hcp] at h1
        subst h1
        go_wp2
        go_ret
        exact ⟨_, rfl, by first | exact HR.out.1 | exact List.all_eq_true.1 HR.out.1, HR.out.2.1, HR.out.2.2.1, HR.out.2.2.2, HB.out⟩
      · rw [if_neg hcp] at h1
        subst h1
        go_wp2
        go_ret
        exact ⟨_, rfl, by first | exact HR.out.1 | exact List.all_eq_true.1 HR.out.1, HR.out.2.1, HR.out.2.2.1, HR.out.2.2.2, HB.out⟩
end
end Go.Proofs.YtplocajjfoiklaaGreatDoor
