/-
  Texts that the proof leans on, joined: Sn8, So8.
-/
import Derived.Test.YtoobncgmcnmgjaaGreatDoorL41
import Derived.Test.YtoobncgmcnmgjaaGreatDoorL40
import Derived.Test.YtoobncgmcnmgjaaGreatDoorL1
set_option linter.unusedVariables false
set_option linter.unusedSimpArgs false
namespace Go.Proofs.YtoobncgmcnmgjaaGreatDoor

theorem least_ex {P : Nat → Prop} : ∀ q : Nat, P q → ∃ K, K ≤ q ∧ P K ∧ ∀ j, j < K → ¬ P j := by
  intro q
  induction q using Nat.strongRecOn with
  | ind q ih =>
    intro h
    by_cases hj : ∃ j, j < q ∧ P j
    · obtain ⟨j, h1, h2⟩ := hj
      obtain ⟨K, k1, k2, k3⟩ := ih j h1 h2
      exact ⟨K, by omega, k2, k3⟩
    · exact ⟨q, Nat.le_refl _, h, fun j h1 h2 => hj ⟨j, h1, h2⟩⟩
theorem rep_all (z : Nat) : (List.replicate z (48 : UInt8)).all dg = true := by
  induction z with
  | zero => rfl
  | succ k ih => rw [List.replicate_succ, List.all_cons, ih]; rfl
theorem dV_rep {T : List UInt8} (hT : T.all dg = true) : ∀ z, dV (T ++ List.replicate z 48) = dV T * 10 ^ z
  | 0 => by simp
  | z + 1 => by
    rw [List.replicate_succ', ← List.append_assoc, dV_snoc (by rw [List.all_append, hT, rep_all]; rfl) (by decide), dV_rep hT z, Nat.pow_succ]
    have : (48 : UInt8).toNat - 48 = 0 := by decide
    rw [this, Nat.add_zero, Nat.mul_comm 10, Nat.mul_assoc]
theorem sd_last {n x : Int} {k : Nat} {E : Int} {K : Nat} (hS : Shd n x k E K) : ∃ T c, sdT n x k E K = T ++ [c] ∧ (c.toNat : Int) ≠ 48 := by
  cases K with
  | zero =>
    obtain ⟨c, r, hT, _, hc, _⟩ := sd_cons hS
    unfold sdT shT at hT ⊢
    by_cases h10 : laK (evK k) (4 * k * oE x E) (lwN n x k * oE x E) (2 * oE x E) (zE x E) 0 = 10
    · rw [if_pos h10]
      exact ⟨[], 49, rfl, by decide⟩
    · rw [if_neg h10] at hT ⊢
      have e : c = UInt8.ofNat (48 + laK (evK k) (4 * k * oE x E) (lwN n x k * oE x E) (2 * oE x E) (zE x E) 0) := by
        simp only [dsN, List.nil_append] at hT
        exact (List.cons.inj hT).1.symm
      exact ⟨dsN (4 * k * oE x E) (zE x E) 0, _, rfl, by rw [← e]; exact hc⟩
  | succ j =>
    obtain ⟨g1, g2, g3, g4, g5⟩ := low_facts hS
    exact ⟨_, _, g2, by rw [ofNat_dg g4]; omega⟩
/-- the digits of a whole number below 2^32 -/
theorem whole_all {n : Int} {m : Nat} (hn : n = 4 ∨ n = 5) (h0 : m ≠ 0) (hm : m < 4294967296) :
    ∃ (V : Nat) (T : List UInt8) (c : UInt8) (z : Nat) (E : Int) (K : Nat), goodN n V ∧ V < 2 ^ 256 ∧ finP n V ∧ Shd n (unD n V).x (unD n V).k E K ∧ sdT n (unD n V).x (unD n V).k E K = T ++ [c] ∧ (c.toNat : Int) ≠ 48 ∧
      E + (sdC n (unD n V).x (unD n V).k E K : Nat) + 1 - ((T ++ [c]).length : Int) = z ∧ dcL m = T ++ [c] ++ List.replicate z 48 ∧ mkV n 0 ⟨1, false, false, dcL m, 0⟩ = V ∧ (dcL m).length ≤ 660 ∧ gdD (dcL m) := by
  have hb : binN n := by rcases hn with rfl | rfl <;> decide
  obtain ⟨f1, f2, f3⟩ := dcL_facts (k := m) (Nat.lt_trans hm (by decide))
  have hD0 : dcL m ≠ [] := by intro h; rw [h, dV_nil] at f2; omega
  have hall := gdD_all f1
  have hby : by_ (dcL m) 0 ≠ 48 := by
    rcases f1 with h | ⟨_, h⟩
    · exact absurd h hD0
    · exact h
  have hge := dV_ge hall hby hD0
  have hlt := (dV_lt hall).1
  have hlen : 1 ≤ (dcL m).length := by
    cases h : dcL m with
    | nil => exact absurd h hD0
    | cons c r => simp
  obtain ⟨q, hq⟩ : ∃ q, (dcL m).length = q + 1 := ⟨(dcL m).length - 1, by omega⟩
  rw [hq, Nat.add_sub_cancel, f2] at hge
  rw [hq, f2] at hlt
  obtain ⟨K, hK, hz, hmin⟩ := least_ex (P := fun j => m % 10 ^ (q - j) = 0) q (by rw [Nat.sub_self, Nat.pow_zero]; exact Nat.mod_one _)
  obtain ⟨hm1, hm2, hm3⟩ := bl_bd h0
  have hbl : bl m ≤ 32 := bl_le.2 (by omega)
  have hfl : 52 ≤ fN n ∧ leastN n ≤ -200 ∧ 0 ≤ mostN n ∧ fN n ≤ 120 := by rcases hn with rfl | rfl <;> decide
  obtain ⟨a, ha⟩ : ∃ a, a = fN n + 1 - bl m := ⟨_, rfl⟩
  have hk0 : m * 2 ^ a ≠ 0 := Nat.mul_ne_zero h0 (Nat.pos_iff_ne_zero.1 (Nat.two_pow_pos _))
  have hd : isD (fN n) (leastN n) (mostN n) ⟨1, false, false, -(a : Int), m * 2 ^ a⟩ := by
    refine Or.inl ⟨rfl, rfl, ?_, ?_, ?_, Or.inl ?_⟩
    · show m * 2 ^ a < 2 ^ (fN n + 1)
      have e : 2 ^ (fN n + 1) = 2 ^ bl m * 2 ^ a := by rw [← Nat.pow_add]; congr 1; omega
      rw [e]
      exact Nat.mul_lt_mul_of_pos_right hm2 (Nat.two_pow_pos _)
    · show leastN n ≤ -(a : Int)
      omega
    · show -(a : Int) ≤ mostN n
      omega
    · show 2 ^ fN n ≤ m * 2 ^ a
      have e : 2 ^ fN n = 2 ^ (bl m - 1) * 2 ^ a := by rw [← Nat.pow_add]; congr 1; omega
      rw [e]
      exact Nat.mul_le_mul_right _ hm1
  have hE : pkE n ⟨1, false, false, -(a : Int), m * 2 ^ a⟩ = 0 := by unfold pkE; rw [if_pos hb, if_pos hd]
  obtain ⟨hg, hu⟩ := back_pk hE
  obtain ⟨hS, hC, hv⟩ := whole_shd (n := n) (a := a) hge hlt hK hz hmin
  obtain ⟨T, c, hT, hc⟩ := sd_last hS
  have hl := sd_len (Nat.lt_of_lt_of_le (show m * 2 ^ a < 2 ^ (fN n + 1) from by
      rcases hd with ⟨_, _, h, _⟩ | ⟨h, _⟩ | ⟨h, _⟩
      · exact h
      · exact absurd (show (1 : Int) = 2 from h) (by decide)
      · exact absurd (show (1 : Int) = 3 from h) (by decide)) (Nat.pow_le_pow_right (by decide) (by omega))) hk0 hS
  obtain ⟨c0, r0, hT0, d1, d2, d3⟩ := sd_cons hS
  have hTall : (T ++ [c]).all dg = true := by rw [← hT, hT0, List.all_cons, d1, d3]; rfl
  refine ⟨pkV n ⟨1, false, false, -(a : Int), m * 2 ^ a⟩, T, c, q - K, q, K, hg, pkV_256 _ _, ?_, ?_, ?_, hc, ?_, ?_, ?_, f3, f1⟩
  · exact ⟨hg, by rw [hu], by rw [hu]; exact hk0⟩
  · rw [hu]; exact hS
  · rw [hu]; exact hT
  · rw [hu]
    dsimp only
    rw [hC, ← hT, hl]
    omega
  · refine gd_uniq f1 ?_ ?_
    · rw [← hT, hT0, List.cons_append]
      refine gd_cons ?_ (by omega)
      rw [List.all_cons, List.all_append, d1, d3, rep_all]; rfl
    · rw [dV_rep hTall, ← hT, hv, f2]
      exact (Nat.div_mul_cancel (Nat.dvd_of_mod_eq_zero hz)).symm
  · unfold mkV
    rw [if_pos rfl]
    dsimp only
    have hp : pwE (dcL m).length 0 = 0 := by unfold pwE; omega
    rw [hp, f2]
    have e1 : tN m 0 = m := by unfold tN; simp
    have e2 : tD 0 = 1 := by unfold tD; simp
    rw [e1, e2]
    have h1 := (rd_shift n 0 false m (D := 1) (by decide) a 0 (-(a : Int))).1
    rw [show -(a : Int) + ((a : Int) - ((0 : Nat) : Int)) = 0 by omega, Nat.pow_zero, Nat.mul_one] at h1
    rw [← h1]
    have h2 := (keep_eq (n := n) 0 (s := false) (q := -(a : Int)) (k := m * 2 ^ a) (b := 1) hb hd (by decide)).1
    rw [Nat.mul_one] at h2
    exact h2
end Go.Proofs.YtoobncgmcnmgjaaGreatDoor

set_option linter.unusedSectionVars false
set_option maxRecDepth 20000
namespace Go.Proofs.YtoobncgmcnmgjaaGreatDoor
open Go.RowKit

attribute [local irreducible] W4
section
variable (w : World) (hT : Tab w) (hT10 : Tb10 w)
variable (c9 : ∀ W, Below w.heap.size w W → Calls Tryz.prog 9 #[] W fun r w' => r = .returned (.bool true) ∧ Below W.heap.size W w')
include c9
set_option maxHeartbeats 2000000 in
theorem law8_0 (b : Bool) : Calls Tryz.prog 8 #[.int .u32 0, .bool b] w fun r w' => r = .returned (.bool true) ∧ Below w.heap.size w w' := by
  go_enter Tryz.func8, Tryz.ntmps8
  go_wp2_with (first
    | (have := hA1; go_at_call 9; refine (c9 _ bgo).mono ?_; rintro r w2 ⟨rfl, hb2⟩; have hA2 := bnext (w0 := w) bgo hb2; clear hb2)
    | (go_at_call 9; refine (c9 _ bgo).mono ?_; rintro r w1 ⟨rfl, hb1⟩; have hA1 := bnext (w0 := w) bgo hb1; clear hb1))
  go_ret
  exact ⟨rfl, bgo⟩
include hT hT10
set_option maxHeartbeats 4000000 in
theorem law8_w (b : Bool) (n : Int) (hn : n = if b then 5 else 4) (m : Int) (hm : 0 < m ∧ m < 4294967296) (D T : List UInt8) (p z V : Nat) (F : Int) (hp : 1 ≤ p) (hz : (B D).size = p + z) (hpz : p + z ≤ 1000)
    (hT0 : (B D).extract 0 p = B T) (h48 : ∀ i, p ≤ i → i < p + z → by_ D i = 48) (hne : by_ D (p - 1) ≠ 48)
    (c17 : ∀ W, Calls Tryz.prog 17 #[.slice (some ⟨W.heap.size, 0, none⟩) 1 1] (W.alloc (.cells #[.int .u64 m] 22)) fun r w' => r = .returned (.string (B D)) ∧ Below W.heap.size W w')
    (c15 : ∀ W, Tab W → Tb10 W → Calls Tryz.prog 15 #[.int .i64 n, .int .i64 0, .string (B D)] W fun r w' => r = .returned (.tuple #[A4 V, .int .i64 F, .int .i64 0]) ∧ Below W.heap.size W w')
    (c10 : ∀ W, Tab W → Calls Tryz.prog 10 #[.int .i64 n, A4 V] W fun r w' => r = .returned (.tuple #[.string (B T), .int .i64 z, .int .i64 0]) ∧ Below W.heap.size W w') :
    Calls Tryz.prog 8 #[.int .u32 m, .bool b] w fun r w' => r = .returned (.bool true) ∧ Below w.heap.size w w' := by
  have hsm := cell_set_map
  have hm0 : (m == 0) = false := by rw [beq_eq_false_iff_ne]; omega
  have H48 : Hid (∀ i, p ≤ i → i < p + z → by_ D i = 48) := h48
  have HNE : Hid (by_ D (p - 1) ≠ 48) := hne
  clear h48 hne
  unfold A4 at *
  cases b <;> simp only [if_true, if_false, Bool.false_eq_true] at hn <;> subst hn
  all_goals
    go_enter Tryz.func8, Tryz.ntmps8
    go_wp2_with (first
      | (go_at_call 9; refine (c9 _ bgo).mono ?_; rintro r w1 ⟨rfl, hb1⟩; have hA1 := bnext (w0 := w) bgo hb1; have hs1 := hA1.size; clear hb1)
      | (have := hA4; go_at_call 17; refine (c17 _).mono ?_; rintro r w5 ⟨rfl, hb5⟩; have hA5 := bnext (w0 := w) bgo hb5; have hs5 := hA5.size; clear hb5)
      | (go_at_call 17; refine (c17 _).mono ?_; rintro r w2 ⟨rfl, hb2⟩; have hA2 := bnext (w0 := w) bgo hb2; have hs2 := hA2.size; clear hb2)
      | (go_at_call 15; refine (c15 _ (hT.go bgo) (hT10.next bgo)).mono ?_; rintro r w3 ⟨rfl, hb3⟩; have hA3 := bnext (w0 := w) bgo hb3; have hs3 := hA3.size; clear hb3)
      | (go_at_call 10; refine (c10 _ (hT.go bgo)).mono ?_; rintro r w4 ⟨rfl, hb4⟩; have hA4 := bnext (w0 := w) bgo hb4; have hs4 := hA4.size; clear hb4))
    go_loop [13] (fun t13 => ∃ i : Nat, p ≤ i + 1 ∧ i + 1 ≤ p + z ∧ t13 = .int .i64 ((i : Int) + 1)) (fun t13 => (intOf t13).toNat)
    case atStart => exact ⟨p + z - 1, by omega, by omega, by congr 1; omega⟩
    case round =>
      obtain ⟨i, h1, h2, rfl⟩ := hrel
      have hi := by_lt (l := D) (i := i) (by omega)
      by_cases hip : p = i + 1
      · have hq := HNE.out
        rw [hip, Nat.add_sub_cancel] at hq
        have hq2 : (by_ D i == 48) = false := by rw [beq_eq_false_iff_ne]; exact hq
        rw [hip] at hT0 hz
        go_wp2
        go_ret
        exact ⟨by simp; omega, bgo⟩
      · have hq := H48.out i (by omega) (by omega)
        rw [hq] at hi
        go_wp2
        go_round
        case rel => exact ⟨i - 1, by omega, by omega, by congr 1; omega⟩
        case measure => simp [intOf]
end
theorem by_app1 {l r : List UInt8} {c : UInt8} : by_ (l ++ [c] ++ r) l.length = (c.toNat : Int) := by
  unfold by_
  rw [dif_pos (by simp)]
  simp
theorem by_rep {l : List UInt8} {z i : Nat} (h1 : l.length ≤ i) (h2 : i < l.length + z) : by_ (l ++ List.replicate z 48) i = 48 := by
  unfold by_
  rw [dif_pos (by simp; omega)]
  rw [List.getElem_append_right h1, List.getElem_replicate]
  rfl
/-- ShortestWhole -/
theorem shortestWhole_any (m : Int) (b : Bool) (w : World) (hT : Tab w) (hT10 : Tb10 w) (hm : 0 ≤ m ∧ m ≤ 4294967295) :
    Calls Tryz.prog 8 #[.int .u32 m, .bool b] w fun r w' => r = .returned (.bool true) ∧ Below w.heap.size w w' := by
  have c9 := fun W (hW : Below w.heap.size w W) => awake9 W (hT.go hW) (hT10.next hW)
  by_cases h0 : m = 0
  · subst h0
    exact law8_0 w c9 b
  · obtain ⟨k, rfl⟩ : ∃ k : Nat, m = (k : Int) := ⟨m.toNat, by omega⟩
    obtain ⟨n, hn⟩ : ∃ n : Int, n = if b then 5 else 4 := ⟨_, rfl⟩
    have hn2 : n = 4 ∨ n = 5 := by rw [hn]; cases b <;> simp
    have hb : binN n := by rcases hn2 with rfl | rfl <;> decide
    obtain ⟨V, T, c, z, E, K, hg, hV, hf, hS, hsT, hc, hat, hD, hmk, hlen, hgd⟩ := whole_all hn2 (m := k) (by omega) (by omega)
    have hl := congrArg List.length hD
    rw [List.length_append, List.length_replicate] at hl
    have hp1 : (T ++ [c]).length = T.length + 1 := by simp
    refine law8_w w hT hT10 c9 b n hn k (by omega) (dcL k) (T ++ [c]) (T ++ [c]).length z V (mkF n 0 ⟨1, false, false, dcL k, 0⟩) (by omega) (by rw [B_size, hl]) (by omega) ?_ ?_ ?_ ?_ (fun W hW hW10 => ?_) (fun W hW => ?_)
    · rw [B_ext, List.drop_zero, hD, List.take_left']
      rfl
    · intro i h1 h2
      rw [hD]
      exact by_rep h1 h2
    · rw [hD, hp1, Nat.add_sub_cancel, by_app1]
      exact hc
    · intro W
      exact (dec_v (K := 1) (by decide) (Nat.lt_of_lt_of_le (show k < 4294967296 by omega) (by decide)) (nt_un1 (W := W) (V := k) rfl rfl (by omega) (by omega)).nt).mono fun r w' ⟨e1, e2⟩ => ⟨e1, bnx (below1 _ _) e2⟩
    · have e : texT 1 false false (dcL k) 0 = dcL k := by
        have h : dcL k ≠ [] := by intro h; rw [h, List.length_nil] at hl; omega
        unfold texT bodT finT exT dgT
        simp [h]
      have hj := (jn_of_gd (p := ⟨1, false, false, dcL k, 0⟩) ⟨hgd, Or.inl ⟨rfl, rfl, ⟨show (-1000000000 : Int) ≤ 0 by decide, show (0 : Int) ≤ 1000000000 by decide⟩, by dsimp only; rw [e]; omega⟩⟩).2
      dsimp only at hj
      rw [e] at hj
      have := read_v (n := n) (d := 0) hb (by decide) hj (by omega) W hW hW10
      rw [hmk] at this
      exact this
    · have := digits_fin hf hV hS W hW
      rw [hsT, hat] at this
      exact this
end Go.Proofs.YtoobncgmcnmgjaaGreatDoor
