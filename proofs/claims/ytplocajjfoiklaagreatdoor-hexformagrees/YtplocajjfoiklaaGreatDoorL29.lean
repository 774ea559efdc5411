/-
  Texts that the proof leans on, joined: Mv, Mu, Mf, Mn, Mw.
-/
import Derived.Test.YtplocajjfoiklaaGreatDoorL28
import Derived.Test.YtplocajjfoiklaaGreatDoorL1
import Derived.Test.YtplocajjfoiklaaGreatDoorL15
set_option linter.unusedVariables false
set_option linter.unusedSectionVars false
set_option linter.unusedSimpArgs false
set_option maxRecDepth 20000
namespace Go.Proofs.YtplocajjfoiklaaGreatDoor
open Go.RowKit

/-- a digit, great or small -/
def upB (gr : Bool) (y : UInt8) : UInt8 := if gr && decide (97 ≤ y.toNat ∧ y.toNat ≤ 102) then y - 32 else y
def mvL (gr : Bool) (Z : Nat) : List UInt8 := (hxL Z 16).map (upB gr)
def mvX (gr : Bool) : List UInt8 := if gr then [48, 88] else [48, 120]
theorem up_sm (gr : Bool) {y : UInt8} (h : hxB y = true) : sm (upB gr y) = y := by
  have := u8_all (p := fun y => !hxB y || (sm (upB true y) == y && sm (upB false y) == y)) (by decide +kernel) y
  simp [h] at this
  cases gr
  · exact this.2
  · exact this.1
theorem mvL_sml (gr : Bool) (Z : Nat) : sml (mvL gr Z) = hxL Z 16 := by
  unfold mvL sml
  rw [List.map_map]
  have h : ∀ y ∈ hxL Z 16, (sm ∘ upB gr) y = y := fun y hy => up_sm gr (List.all_eq_true.1 (hxL_all Z 16) y hy)
  rw [List.map_congr_left h]
  simp
theorem mvL_len (gr : Bool) (Z : Nat) : (mvL gr Z).length = 16 := by unfold mvL; rw [List.length_map, hxL_len]
theorem mvL_next (gr : Bool) (Z : Nat) {i : Nat} (h : i < 16) : (mvL gr Z).take (i + 1) = (mvL gr Z).take i ++ [upB gr (hxd (Z / 16 ^ (15 - i) % 16))] := by
  unfold mvL
  rw [← List.map_take, hxL_take h, List.map_append, ← List.map_take]
  rfl
theorem noughts_hx (k : Nat) : (List.replicate k (48 : UInt8)).all hxB = true ∧ hxV (List.replicate k (48 : UInt8)) = 0 ∧ sml (List.replicate k (48 : UInt8)) = List.replicate k 48 := by
  induction k with
  | zero => exact ⟨rfl, rfl, rfl⟩
  | succ k ih =>
    rw [List.replicate_succ]
    refine ⟨by rw [List.all_cons, ih.1]; rfl, ?_, by rw [sml_cons, ih.2.2]; rfl⟩
    have := hxV_app [48] (List.replicate k 48)
    rw [ih.2.1, show hxV [48] = 0 by decide, Nat.zero_mul] at this
    exact this
/-- the three texts -/
def mvT1 (gr : Bool) (Z : Nat) (e : Int) : List UInt8 := ((mvX gr ++ mvL gr Z) ++ [112]) ++ Lib.itoa e
def mvT2 (gr : Bool) (Z : Nat) (k : Nat) (e : Int) : List UInt8 := ((((((mvX gr ++ List.replicate k 48) ++ (mvL gr Z).take 1) ++ [46]) ++ (mvL gr Z).drop 1) ++ List.replicate k 48) ++ [80]) ++ Lib.itoa (e + 60)
def mvT3 (gr : Bool) (Z : Nat) (e : Int) : List UInt8 := (([48, 120, 46] ++ mvL gr Z) ++ [112]) ++ Lib.itoa (e + 64)
theorem mvX_sml (gr : Bool) : sml (mvX gr) = [48, 120] := by cases gr <;> rfl
section
variable (gr : Bool) {Z : Nat} (hZ : Z < 2 ^ 64) {k : Nat} (hk : k ≤ 12) {e : Int} (he : -40000 ≤ e ∧ e ≤ 40000)
include hZ hk he
theorem mv_lens : (mvT1 gr Z e).length ≤ 200 ∧ (mvT2 gr Z k e).length ≤ 200 ∧ (mvT3 gr Z e).length ≤ 200 := by
  have h1 := itoa_short (e := e) (by omega)
  have h2 := itoa_short (e := e + 60) (by omega)
  have h3 := itoa_short (e := e + 64) (by omega)
  have hl := mvL_len gr Z
  have hx : (mvX gr).length = 2 := by cases gr <;> rfl
  unfold mvT1 mvT2 mvT3
  simp only [List.length_append, List.length_take, List.length_drop, List.length_replicate, List.length_cons, List.length_nil, hl, hx]
  omega
theorem mv_1 : gsgB (sml (mvT1 gr Z e)) = false ∧ ∃ a, sgR (sml (mvT1 gr Z e)) = 48 :: 120 :: a ∧ hxR a = some (Z, e) := by
  have hs : sml (mvT1 gr Z e) = 48 :: 120 :: (hxL Z 16 ++ 112 :: Lib.itoa e) := by
    unfold mvT1
    rw [sml_app, sml_app, sml_app, mvX_sml, mvL_sml, sml_it]
    simp [sml]
    rfl
  rw [hs]
  obtain ⟨x1, x2⟩ := it_exp e (by omega)
  refine ⟨rfl, _, rfl, ?_⟩
  rw [hxR_n (hxL_all Z 16) (by rw [hxL_len]; decide) x1, x2, hxL_val (by rw [p16]; exact hZ)]
  congr 2
  omega
theorem mv_2 : gsgB (sml (mvT2 gr Z k e)) = false ∧ ∃ a, sgR (sml (mvT2 gr Z k e)) = 48 :: 120 :: a ∧ hxR a = some (Z * 16 ^ k, e - 4 * (k : Int)) := by
  obtain ⟨n1, n2, n3⟩ := noughts_hx k
  have ht : sml ((mvL gr Z).take 1) = (hxL Z 16).take 1 := by rw [← mvL_sml gr Z]; unfold sml; rw [List.map_take]
  have hd : sml ((mvL gr Z).drop 1) = (hxL Z 16).drop 1 := by rw [← mvL_sml gr Z]; unfold sml; rw [List.map_drop]
  have hs : sml (mvT2 gr Z k e) = 48 :: 120 :: ((List.replicate k 48 ++ (hxL Z 16).take 1) ++ 46 :: (((hxL Z 16).drop 1 ++ List.replicate k 48) ++ 112 :: Lib.itoa (e + 60))) := by
    unfold mvT2
    rw [sml_app, sml_app, sml_app, sml_app, sml_app, sml_app, sml_app, mvX_sml, ht, hd, n3, sml_it]
    simp [sml]
    decide
  rw [hs]
  obtain ⟨x1, x2⟩ := it_exp (e + 60) (by omega)
  have hall := hxL_all Z 16
  have hW : (List.replicate k 48 ++ (hxL Z 16).take 1).all hxB = true := by
    rw [List.all_append, n1, Bool.true_and]
    exact List.all_eq_true.2 fun y hy => List.all_eq_true.1 hall y (List.mem_of_mem_take hy)
  have hF : ((hxL Z 16).drop 1 ++ List.replicate k 48).all hxB = true := by
    rw [List.all_append, n1, Bool.and_true]
    exact List.all_eq_true.2 fun y hy => List.all_eq_true.1 hall y (List.mem_of_mem_drop hy)
  have hFl : ((hxL Z 16).drop 1 ++ List.replicate k 48).length = 15 + k := by
    rw [List.length_append, List.length_drop, hxL_len, List.length_replicate]
  refine ⟨rfl, _, rfl, ?_⟩
  rw [hxR_p hW hF (by rw [hFl]; omega) x1, x2, ← hxV_app, hFl]
  have v1 : hxV ((List.replicate k (48 : UInt8) ++ (hxL Z 16).take 1) ++ ((hxL Z 16).drop 1 ++ List.replicate k 48)) = Z * 16 ^ k := by
    rw [show (List.replicate k (48 : UInt8) ++ (hxL Z 16).take 1) ++ ((hxL Z 16).drop 1 ++ List.replicate k 48) = (List.replicate k 48 ++ hxL Z 16) ++ List.replicate k 48 by
      rw [List.append_assoc, ← List.append_assoc ((hxL Z 16).take 1), List.take_append_drop, List.append_assoc]]
    rw [hxV_app, hxV_app, n2, List.length_replicate, hxL_val (by rw [p16]; exact hZ), Nat.zero_mul, Nat.zero_add, Nat.add_zero]
  have v2 : min (max (e + 60) (-1000000000)) 1000000000 - 4 * ((15 + k : Nat) : Int) = e - 4 * (k : Int) := by omega
  rw [v1, v2]
theorem mv_3 : gsgB (sml (mvT3 gr Z e)) = false ∧ ∃ a, sgR (sml (mvT3 gr Z e)) = 48 :: 120 :: a ∧ hxR a = some (Z, e) := by
  have hs : sml (mvT3 gr Z e) = 48 :: 120 :: ([] ++ 46 :: (hxL Z 16 ++ 112 :: Lib.itoa (e + 64))) := by
    unfold mvT3
    rw [sml_app, sml_app, sml_app, mvL_sml, sml_it]
    simp [sml]
    decide
  rw [hs]
  obtain ⟨x1, x2⟩ := it_exp (e + 64) (by omega)
  refine ⟨rfl, _, rfl, ?_⟩
  rw [hxR_p rfl (hxL_all Z 16) (by rw [hxL_len]; decide) x1, x2, hxL_val (by rw [p16]; exact hZ), hxL_len, hxV_nil, Nat.zero_mul, Nat.zero_add]
  congr 2
  omega
/-- they are read alike -/
theorem mv_same {n d : Int} (hb : binN n) (hd : knB d) : ∃ V F, (∀ W, Tab W → Calls Tryz.prog 11 #[.int .i64 n, .int .i64 d, .string (B (mvT1 gr Z e))] W fun r w' => r = .returned (.tuple #[A4 V, .int .i64 F, .int .i64 0]) ∧ Below W.heap.size W w') ∧
    (∀ W, Tab W → Calls Tryz.prog 11 #[.int .i64 n, .int .i64 d, .string (B (mvT2 gr Z k e))] W fun r w' => r = .returned (.tuple #[A4 V, .int .i64 F, .int .i64 0]) ∧ Below W.heap.size W w') ∧
    (∀ W, Tab W → Calls Tryz.prog 11 #[.int .i64 n, .int .i64 d, .string (B (mvT3 gr Z e))] W fun r w' => r = .returned (.tuple #[A4 V, .int .i64 F, .int .i64 0]) ∧ Below W.heap.size W w') := by
  obtain ⟨l1, l2, l3⟩ := mv_lens gr hZ hk he
  obtain ⟨a1, b1, a2, a3⟩ := mv_1 gr hZ hk he
  obtain ⟨c1, d1, c2, c3⟩ := mv_2 gr hZ hk he
  obtain ⟨e1, f1, e2, e3⟩ := mv_3 gr hZ hk he
  obtain ⟨s1, s2⟩ := rd_shift n d false Z (D := 1) (by decide) (4 * k) 0 (e - 4 * (k : Int))
  rw [← p16, Nat.pow_zero, Nat.mul_one, show e - 4 * (k : Int) + (((4 * k : Nat) : Int) - ((0 : Nat) : Int)) = e by omega] at s1 s2
  refine ⟨rdV n d false Z 1 e, rdF n d false Z 1 e, fun W hT => xread_v hb hd (by omega) a1 a2 a3 W hT, fun W hT => ?_, fun W hT => xread_v hb hd (by omega) e1 e2 e3 W hT⟩
  have := xread_v hb hd (by omega) c1 c2 c3 W hT
  rw [s1, s2] at this
  exact this
end
end Go.Proofs.YtplocajjfoiklaaGreatDoor

namespace Go.Proofs.YtplocajjfoiklaaGreatDoor
open Go.RowKit

theorem one_byte (y : UInt8) (x : Int) (hx : ((y.toNat : Nat) : Int) = x) (W : World) : (convert 81 9 (.slice (some ⟨W.heap.size, 0, none⟩) 1 1)).run Tryz.prog (W.alloc (.cells #[.int .u8 x] 5)) = .ok (.string (B [y])) (W.alloc (.cells #[.int .u8 x] 5)) := by
  refine run_convert_bytes_back (W.alloc (.cells #[.int .u8 x] 5)) 81 9 5 ⟨W.heap.size, 0, none⟩ 1 [y] Tryz.underlying81 Tryz.underlying5 Tryz.underlying9 fun j hj => ?_
  have : j = 0 := by simp at hj; exact hj
  subst this
  subst hx
  simp [Addr.add]
theorem dec_step {m : Nat} (h : 10 ≤ m) : Lib.decDigits m = Lib.decDigits (m / 10) ++ [UInt8.ofNat (48 + m % 10)] := by
  rw [Lib.decDigits, dif_neg (by omega)]
/-- what is left to be written ahead of L -/
def dcP (M m : Nat) (L : List UInt8) : Prop := (if 0 < m ∨ L = [] then Lib.decDigits m ++ L else L) = Lib.decDigits M
theorem dcP_next {M m : Nat} {L : List UInt8} (h : dcP M m L) (h0 : 0 < m ∨ L = []) : dcP M (m / 10) ([UInt8.ofNat (48 + m % 10)] ++ L) := by
  unfold dcP at h ⊢
  rw [if_pos h0] at h
  by_cases h10 : 10 ≤ m
  · rw [if_pos (Or.inl (by omega)), ← List.append_assoc, ← dec_step h10]
    exact h
  · rw [if_neg (by simp; omega), ← h, Lib.decDigits_one (by omega), Nat.mod_eq_of_lt (by omega)]
set_option maxHeartbeats 4000000 in
theorem decimal_v (n : Int) (hn : -100000 ≤ n ∧ n ≤ 100000) (w : World) : Calls Tryz.prog 16 #[.int .i64 n] w fun e w' => e = .returned (.string (B (Lib.itoa n))) ∧ Below w.heap.size w w' := by
  obtain ⟨M, hM⟩ : ∃ M, n.natAbs = M := ⟨_, rfl⟩
  have hmx : max n (-n) = (M : Int) := by omega
  have hM5 : M ≤ 100000 := by omega
  have HI : Hid (Lib.itoa n = if n < 0 then [45] ++ Lib.decDigits M else Lib.decDigits M) := by
    show _ = _
    unfold Lib.itoa
    rw [hM]
    split
    · rfl
    · congr 1
      omega
  have htl := B_toList
  have hdl : (Lib.decDigits M).length ≤ 100 := by
    have h1 := Lib.itoa_length_le (M : Int) (by omega) (by omega)
    rw [Lib.itoa_nonneg] at h1
    omega
  clear hM
  go_enter Tryz.func16, Tryz.ntmps16
  go_wp2
  go_loopw [3, 4] (fun t3 t4 wr => ∃ (m : Nat) (L : List UInt8), m ≤ M ∧ t3 = .string (B L) ∧ t4 = .int .i64 (m : Int) ∧ L.length ≤ 100 ∧ dcP M m L ∧ Below w.heap.size w wr) (fun t3 t4 _ => 2 * (intOf t4).toNat + (match t3 with | .string b => if b.size = 0 then 1 else 0 | _ => 0))
  case atStart => exact ⟨M, [], Nat.le_refl _, rfl, rfl, by decide, by unfold dcP; rw [if_pos (Or.inr rfl), List.append_nil], Below.refl _ _⟩
  case round =>
    obtain ⟨m, L, hm, rfl, rfl, hL, hP, hB⟩ := hrel
    have hmi : (m : Int) ≤ 100000 := by omega
    have hzL : (B L).size = L.length := B_size L
    by_cases h0 : 0 < m ∨ L = []
    · have HN := dcP_next hP h0
      have hL2 : ([UInt8.ofNat (48 + m % 10)] ++ L).length ≤ 100 := by
        unfold dcP at HN
        have := congrArg List.length HN
        by_cases hq : 0 < m / 10 ∨ [UInt8.ofNat (48 + m % 10)] ++ L = []
        · rw [if_pos hq, List.length_append] at this
          omega
        · rw [if_neg hq] at this
          omega
      have hy : (((UInt8.ofNat (48 + m % 10)).toNat : Nat) : Int) = 48 + (m : Int) % 10 := by
        rw [show (UInt8.ofNat (48 + m % 10)).toNat = 48 + m % 10 by simp; omega]
        omega
      by_cases hm0 : m = 0
      · subst hm0
        obtain rfl : L = [] := by
          rcases h0 with h | h
          · omega
          · exact h
        have hcv := one_byte 48 48 rfl wr
        have p0 : B [48] ++ B [] = B [48] := B_app [48] []
        have z0 : (B [48]).size = 1 := rfl
        have hzn : (B []).size = 0 := rfl
        have HP : Hid (dcP M 0 [48]) := HN
        have HB : Hid (Below w.heap.size w wr) := hB
        have HS : Hid (wr.heap.size ≥ w.heap.size) := hB.size
        clear HN hL2 hP hB h0 hy hzL
        go_wp2
        go_roundw
        case rel => exact ⟨0, [48], by omega, rfl, by go_num, by decide, HP.out, HB.out.alloc HS.out _⟩
        case measure => decide
      · obtain ⟨q, hq⟩ : ∃ q, m / 10 = q := ⟨_, rfl⟩
        obtain ⟨r, hr⟩ : ∃ r, m % 10 = r := ⟨_, rfl⟩
        rw [hq, hr] at HN
        rw [hr] at hL2 hy
        rw [show (m : Int) % 10 = (r : Int) by omega] at hy
        have hcv := one_byte (UInt8.ofNat (48 + r)) (48 + (r : Int)) hy wr
        have p0 : B [UInt8.ofNat (48 + r)] ++ B L = B ([UInt8.ofNat (48 + r)] ++ L) := B_app _ _
        have z0 : (B [UInt8.ofNat (48 + r)]).size = 1 := rfl
        have hd : (m : Int) / 10 = (q : Int) := by omega
        have hd2 : (m : Int) % 10 = (r : Int) := by omega
        have hr10 : (r : Int) < 10 := by omega
        have HP : Hid (dcP M q ([UInt8.ofNat (48 + r)] ++ L)) := HN
        have HL2 : Hid (([UInt8.ofNat (48 + r)] ++ L).length ≤ 100) := hL2
        have HLn : Hid (([UInt8.ofNat (48 + r)] ++ L).length = L.length + 1) := by show _ = _; simp
        have HB : Hid (Below w.heap.size w wr) := hB
        have HS : Hid (wr.heap.size ≥ w.heap.size) := hB.size
        have HE : Hid (q < m) := by show _ < _; omega
        obtain ⟨ll, hll⟩ : ∃ ll, L.length = ll := ⟨_, rfl⟩
        rw [hll] at hzL hL HLn
        have hli : (ll : Int) ≤ 100 := by omega
        have h' : 0 < (m : Int) := by omega
        clear HN hL2 hP hB h0 hy hll hq hr
        generalize hy0 : ([UInt8.ofNat (48 + r)] : List UInt8) = Y at *
        generalize hL0 : Y ++ L = L1 at *
        clear hy0 hL0
        go_wp2
        go_roundw
        case rel => exact ⟨q, L1, by have := HE.out; omega, rfl, by go_num, HL2.out, HP.out, HB.out.alloc HS.out _⟩
        case measure =>
          have e1 := HLn.out
          have e2 := HE.out
          have e3 : (B L1).size = L1.length := B_size L1
          simp only [intOf]
          rw [e3, e1]
          split <;> split <;> omega
    · have hm0 : m = 0 := by
        apply Classical.byContradiction
        intro h
        exact h0 (Or.inl (by omega))
      have hLn : L ≠ [] := fun h => h0 (Or.inr h)
      have hemp : L.isEmpty = false := by cases L with | nil => exact absurd rfl hLn | cons y ys => rfl
      unfold dcP at hP
      rw [if_neg h0] at hP
      have HP : Hid (L = Lib.decDigits M) := hP
      have HB : Hid (Below w.heap.size w wr) := hB
      subst hm0
      have p0 : (⟨#[45]⟩ : ByteArray) ++ B L = B ([45] ++ L) := B_app [45] L
      have hli : (L.length : Int) ≤ 100 := by omega
      clear hP hB h0 hLn
      generalize hL0 : [45] ++ L = L1 at *
      by_cases hneg : n < 0
      · go_wp2
        go_ret
        exact ⟨by rw [HI.out, if_pos hneg, ← HP.out, hL0]; rfl, HB.out⟩
      · go_wp2
        go_ret
        exact ⟨by rw [HI.out, if_neg (by omega), ← HP.out]; rfl, HB.out⟩
end Go.Proofs.YtplocajjfoiklaaGreatDoor

namespace Go.Proofs.YtplocajjfoiklaaGreatDoor
open Go.RowKit

attribute [local irreducible] W4
section
set_option maxHeartbeats 4000000
variable (n : Int) (V : Nat) (c : Int) (s g : Bool) (x : Int) (k : Nat) (w : World) (hT : Tab w)
include hT
variable (c21 : ∀ W, Tab W → Calls Tryz.prog 21 #[.int .i64 n, A4 V] W fun r w' => r = .returned (.tuple #[DV c s g x k, .int .i64 0]) ∧ Below W.heap.size W w')
include c21
variable (hc : c = 1) (T : List UInt8) (hl : T.length ≤ 1000) (c23 : ∀ W, Below w.heap.size w W → Calls Tryz.prog 23 #[A4 k, .int .i64 x] W fun r w' => r = .returned (.string (B T)) ∧ Below W.heap.size W w')
include hc hl c23
theorem xw_p (hs : s = false) : Calls Tryz.prog 9 #[.int .i64 n, A4 V] w fun r w' => r = .returned (.tuple #[.string (B T), .int .i64 0]) ∧ Below w.heap.size w w' := by
  subst hc hs
  have hsm := cell_set_map
  unfold DV at *
  generalize B T = bT at *
  go_enter Tryz.func9, Tryz.ntmps9
  go_wp2_with (first
    | (go_at_call 21; refine (c21 _ (hT.go bgo)).mono ?_; rintro r w1 ⟨rfl, hb1⟩; obtain ⟨hc1, hf1⟩ := bcell hb1; have hz1_0 : w.heap.size < w1.heap.size := lt_below hb1 ltg; have hl1_0 := Nat.le_of_lt hz1_0; have hA1 := bnext (w0 := w) bgo hb1; have hs1 := hA1.size; clear hb1)
    | (go_at_call 23; refine (c23 _ bgo).mono ?_; rintro r w2 ⟨rfl, hb2⟩; obtain ⟨hc2, hf2⟩ := bcell hb2; have hz2_0 : w.heap.size < w2.heap.size := lt_below hb2 ltg; have hl2_0 := Nat.le_of_lt hz2_0; have hA2 := bnext (w0 := w) bgo hb2; have hs2 := hA2.size; clear hb2))
  go_ret2
  exact ⟨rfl, bgo⟩
theorem xw_m (hs : s = true) : Calls Tryz.prog 9 #[.int .i64 n, A4 V] w fun r w' => r = .returned (.tuple #[.string (B ([45] ++ T)), .int .i64 0]) ∧ Below w.heap.size w w' := by
  subst hc hs
  have hsm := cell_set_map
  have hsz : (B T).size = T.length := B_size T
  have hli : (T.length : Int) ≤ 1000 := by omega
  have p0 : (⟨#[45]⟩ : ByteArray) ++ B T = B ([45] ++ T) := B_app [45] T
  unfold DV at *
  generalize B ([45] ++ T) = bS at *
  generalize B T = bT at *
  go_enter Tryz.func9, Tryz.ntmps9
  go_wp2_with (first
    | (go_at_call 21; refine (c21 _ (hT.go bgo)).mono ?_; rintro r w1 ⟨rfl, hb1⟩; obtain ⟨hc1, hf1⟩ := bcell hb1; have hz1_0 : w.heap.size < w1.heap.size := lt_below hb1 ltg; have hl1_0 := Nat.le_of_lt hz1_0; have hA1 := bnext (w0 := w) bgo hb1; have hs1 := hA1.size; clear hb1)
    | (go_at_call 23; refine (c23 _ bgo).mono ?_; rintro r w2 ⟨rfl, hb2⟩; obtain ⟨hc2, hf2⟩ := bcell hb2; have hz2_0 : w.heap.size < w2.heap.size := lt_below hb2 ltg; have hl2_0 := Nat.le_of_lt hz2_0; have hA2 := bnext (w0 := w) bgo hb2; have hs2 := hA2.size; clear hb2))
  go_ret2
  exact ⟨rfl, bgo⟩
end
theorem hwT_len (k : Nat) {x : Int} (hk : bl k ≤ 241) (hx : -40000 ≤ x ∧ x ≤ 40000) : (hwT k x).length ≤ 200 := by
  unfold hwT
  split
  · decide
  · unfold hbT
    have h1 := (hbD_facts k).2.1
    have h2 : hbC k ≤ 61 := by unfold hbC; omega
    have h3 := itoa_short (e := x + bl k - 1) (by omega)
    rw [List.length_append, List.length_append, List.length_append, List.length_append]
    split <;> split <;> simp <;> omega
section
variable {n : Int} {V : Nat} (hV : V < 2 ^ 256) (hg : goodN n V) (w : World) (hT : Tab w) (hT10 : Tb10 w)
include hV hg hT hT10
theorem xwrite_f (hTZ : TbZ w) (hc : (unD n V).c = 1) : Calls Tryz.prog 9 #[.int .i64 n, A4 V] w fun r w' => r = .returned (.tuple #[.string (B (sgL (unD n V).s ++ hwT (unD n V).k (unD n V).x)), .int .i64 0]) ∧ Below w.heap.size w w' := by
  have c21 := fun W (hW : Tab W) => unpack_any n V W hW hV
  rw [show unE n V = 0 from if_pos hg] at c21
  obtain ⟨hkb, hxb⟩ : bl (unD n V).k ≤ 241 ∧ (-40000 ≤ (unD n V).x ∧ (unD n V).x ≤ 40000) := by
    have hf := (bin_fm hg.1).f240
    rcases un_isD hg with ⟨e1, e2, e3, e4, e5, e6⟩ | ⟨e1, _⟩ | ⟨e1, _⟩
    · have hx := bin_x hg.1 e4 e5
      have := bl_le.2 e3
      exact ⟨by omega, by omega, by omega⟩
    · omega
    · omega
  have c23 := fun W (hW : Below w.heap.size w W) => hun_v (unD n V).x W (hTZ.next hW) (hT10.next hW) hkb hxb
  have hlen := hwT_len (unD n V).k hkb hxb
  cases hs : (unD n V).s
  · exact xw_p n V _ _ _ _ _ w hT c21 hc (hwT (unD n V).k (unD n V).x) (by omega) c23 hs
  · exact xw_m n V _ _ _ _ _ w hT c21 hc (hwT (unD n V).k (unD n V).x) (by omega) c23 hs
end
end Go.Proofs.YtplocajjfoiklaaGreatDoor

namespace Go.Proofs.YtplocajjfoiklaaGreatDoor
open Go.RowKit

theorem half_un : unD 3 1069547520 = ⟨1, false, false, -23, 12582912⟩ := by kernel_rfl
theorem half_text : hwT 12582912 (-23) = [48, 120, 49, 46, 56, 112, 43, 48] := by decide +kernel
theorem A4_half : A4 1069547520 = .agg #[.int .u64 1069547520, .int .u64 0, .int .u64 0, .int .u64 0] := by unfold A4; rw [show W4 1069547520 0 = 1069547520 by decide, show W4 1069547520 1 = 0 by decide, show W4 1069547520 2 = 0 by decide, show W4 1069547520 3 = 0 by decide]
attribute [local irreducible] W4
set_option maxHeartbeats 1000000 in
theorem awake11 (w : World) (hT : Tab w) (hT10 : Tb10 w) (hTZ : TbZ w) : Calls Tryz.prog 8 #[] w fun r w' => r = .returned (.bool true) ∧ Below w.heap.size w w' := by
  have hg : goodN 3 1069547520 := by decide
  have c9 := fun W (h1 : Tab W) (h2 : Tb10 W) (h3 : TbZ W) => xwrite_f (n := 3) (V := 1069547520) (by decide) hg W h1 h2 h3 (by rw [half_un])
  rw [half_un, half_text, A4_half] at c9
  have eb : B (sgL false ++ [48, 120, 49, 46, 56, 112, 43, 48]) = ⟨#[48, 120, 49, 46, 56, 112, 43, 48]⟩ := rfl
  have c10 : ∀ W, Tab W → Tb10 W → TbZ W → Calls Tryz.prog 9 #[.int .i64 3, .agg #[.int .u64 1069547520, .int .u64 0, .int .u64 0, .int .u64 0]] W fun r w' => r = .returned (.tuple #[.string ⟨#[48, 120, 49, 46, 56, 112, 43, 48]⟩, .int .i64 0]) ∧ Below W.heap.size W w' := c9
  clear c9
  go_enter Tryz.func8, Tryz.ntmps8
  go_wp2_with (go_at_call 9; refine (c10 _ (hT.go bgo) (hT10.next bgo) (hTZ.next bgo)).mono ?_; rintro r w1 ⟨rfl, hb1⟩)
  go_ret
  exact ⟨rfl, hb1⟩
section
variable (n : Int) (V : Nat) (w : World) (hT : Tab w) (hT10 : Tb10 w) (hTZ : TbZ w)
  (c8 : ∀ W, Below w.heap.size w W → Calls Tryz.prog 8 #[] W fun r w' => r = .returned (.bool true) ∧ Below W.heap.size W w')
include hT hT10 hTZ c8
end
end Go.Proofs.YtplocajjfoiklaaGreatDoor

namespace Go.Proofs.YtplocajjfoiklaaGreatDoor
open Go.RowKit

/-- the sixteen digits, great or small -/
def allL (gr : Bool) : List UInt8 := if gr then [48, 49, 50, 51, 52, 53, 54, 55, 56, 57, 65, 66, 67, 68, 69, 70] else [48, 49, 50, 51, 52, 53, 54, 55, 56, 57, 97, 98, 99, 100, 101, 102]
theorem all_at (gr : Bool) : ∀ v, v < 16 → ((allL gr).drop v).take 1 = [upB gr (hxd v)] := by cases gr <;> decide +kernel
theorem all_len (gr : Bool) : (allL gr).length = 16 := by cases gr <;> rfl
theorem all_ext (gr : Bool) {v : Nat} (h : v < 16) : ((B (allL gr)).extract v 16).size = 16 - v ∧ ((B (allL gr)).extract v 16).extract 0 1 = B [upB gr (hxd v)] := by
  have h1 : (B (allL gr)).extract v 16 = B ((allL gr).drop v) := by
    have := B_drop (allL gr) v
    rwa [B_size, all_len] at this
  rw [h1]
  refine ⟨by rw [B_size, List.length_drop, all_len], ?_⟩
  rw [B_ext, List.drop_zero, all_at gr v h]
theorem nib_u (Z i : Nat) (hZ : Z < 2 ^ 64) (hi : i < 16) : bits BinOp.and IntKind.u64 ((Z : Int) / 2 ^ (60 - 4 * i)) 15 = ((Z / 16 ^ (15 - i) % 16 : Nat) : Int) := by
  have h1 : (0 : Int) ≤ (Z : Int) / 2 ^ (60 - 4 * i) := Int.ediv_nonneg (by omega) (Int.le_of_lt (Int.pow_pos (by decide)))
  have h2 : (Z : Int) / 2 ^ (60 - 4 * i) ≤ Z := Int.ediv_le_self _ (by omega)
  rw [show (15 : Int) = 2 ^ 4 - 1 by decide, and_mask ⟨h1, by omega⟩ (by decide)]
  rw [show (2 : Int) ^ (60 - 4 * i) = ((2 ^ (60 - 4 * i) : Nat) : Int) by simp, ← Int.natCast_ediv, show (2 : Int) ^ 4 = ((16 : Nat) : Int) by decide, ← Int.natCast_emod, p16, show 4 * (15 - i) = 60 - 4 * i by omega]
section
variable (n d : Int) (Z : Nat) (e : Int) (nt : Nat) (gr : Bool) (w : World) (hT : Tab w) (hT10 : Tb10 w) (hTZ : TbZ w)
  (c8 : ∀ W, Below w.heap.size w W → Calls Tryz.prog 8 #[] W fun r w' => r = .returned (.bool true) ∧ Below W.heap.size W w')
include hT hT10 hTZ c8
set_option maxHeartbeats 2000000 in
theorem law11_6b (c14 : ∀ W, Calls Tryz.prog 14 #[.int .i64 n] W fun r w' => r = .returned (.bool false) ∧ W = w') :
    Calls Tryz.prog 6 #[.int .i64 n, .int .i64 d, .int .u64 (Z : Int), .int .i16 e, .int .u8 (nt : Int), .bool gr] w fun r w' => r = .returned (.bool true) ∧ Below w.heap.size w w' := by
  have hB : Below w.heap.size w w := Below.refl _ _
  go_enter Tryz.func6, Tryz.ntmps6
  go_wp2_with (first
    | (go_at_call 8; refine (c8 _ hB).mono ?_; rintro r w1 ⟨rfl, hb1⟩; replace hB := bnext hB hb1; clear hb1)
    | (go_at_call 14; refine (c14 _).mono ?_; rintro r w2 ⟨rfl, rfl⟩))
  go_ret
  exact ⟨rfl, hB⟩
set_option maxHeartbeats 2000000 in
theorem law11_6d (c14 : ∀ W, Calls Tryz.prog 14 #[.int .i64 n] W fun r w' => r = .returned (.bool true) ∧ W = w') (c15 : ∀ W, Calls Tryz.prog 15 #[.int .i64 d] W fun r w' => r = .returned (.bool false) ∧ W = w') :
    Calls Tryz.prog 6 #[.int .i64 n, .int .i64 d, .int .u64 (Z : Int), .int .i16 e, .int .u8 (nt : Int), .bool gr] w fun r w' => r = .returned (.bool true) ∧ Below w.heap.size w w' := by
  have hB : Below w.heap.size w w := Below.refl _ _
  go_enter Tryz.func6, Tryz.ntmps6
  go_wp2_with (first
    | (go_at_call 8; refine (c8 _ hB).mono ?_; rintro r w1 ⟨rfl, hb1⟩; replace hB := bnext hB hb1; clear hb1)
    | (go_at_call 14; refine (c14 _).mono ?_; rintro r w2 ⟨rfl, rfl⟩)
    | (go_at_call 15; refine (c15 _).mono ?_; rintro r w2 ⟨rfl, rfl⟩))
  go_ret
  exact ⟨rfl, hB⟩
end
end Go.Proofs.YtplocajjfoiklaaGreatDoor
