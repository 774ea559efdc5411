/-
  Texts that the proof leans on, joined: Ug.
-/
import Derived.Test.YtmommdhnogogdaaDoorJ23
import Derived.Test.YtmommdhnogogdaaDoorJ17
import Derived.Test.YtmommdhnogogdaaDoorJ11
import Derived.Test.YtmommdhnogogdaaDoorJ1
set_option linter.unusedVariables false
set_option linter.unusedSectionVars false
set_option linter.unusedSimpArgs false
set_option maxRecDepth 20000
namespace Go.Proofs.YtmommdhnogogdaaDoor
open Go.RowKit
section
variable (n d x y : Int) (s : Bool) (vn vd : Value) (w : World) (sn sd : Nat) (hsn : sn ≤ 10000) (hsd : sd ≤ 10000)
  (c19 : ∀ W, Below w.heap.size w W → Calls Tryd.prog 11 #[vn] W fun r w' => r = .returned (.int .i64 (sn : Int)) ∧ W = w')
  (c19d : ∀ W, Below w.heap.size w W → Calls Tryd.prog 11 #[vd] W fun r w' => r = .returned (.int .i64 (sd : Int)) ∧ W = w')
include hsn hsd c19 c19d
set_option maxHeartbeats 2000000 in
theorem rd15_n (c18 : ∀ W, Calls Tryd.prog 10 #[.int .i64 n] W fun r w' => r = .returned (.bool false) ∧ W = w') :
    Calls Tryd.prog 9 #[.int .i64 n, .int .i64 d, .bool s, vn, vd, .int .i64 x, .int .i64 y] w fun r w' => r = .returned (.tuple #[.agg #[.int .i64 0, .bool false, .bool false, .int .i64 0, .int .u64 0, .int .u64 0, .int .u64 0, .int .u64 0], .int .i64 0, .int .i64 1]) ∧ Below w.heap.size w w' := by
  have hsm := cell_set_map
  go_enter Tryd.func9, Tryd.ntmps9
  go_wp2_with (go_at_call 10; refine (c18 _).mono ?_; rintro r w1 ⟨rfl, rfl⟩)
  exact bodyPost_ret (v := .tuple #[.agg #[.int .i64 0, .bool false, .bool false, .int .i64 0, .int .u64 0, .int .u64 0, .int .u64 0, .int .u64 0], .int .i64 0, .int .i64 1]) (by simp only [results, Tryd.results9]; go_simp) rfl ⟨rfl, bgo⟩
variable (c18 : ∀ W, Calls Tryd.prog 10 #[.int .i64 n] W fun r w' => r = .returned (.bool true) ∧ W = w')
include c18
set_option maxHeartbeats 2000000 in
theorem rd15_d (c16 : ∀ W, Calls Tryd.prog 29 #[.int .i64 d] W fun r w' => r = .returned (.bool false) ∧ W = w') :
    Calls Tryd.prog 9 #[.int .i64 n, .int .i64 d, .bool s, vn, vd, .int .i64 x, .int .i64 y] w fun r w' => r = .returned (.tuple #[.agg #[.int .i64 0, .bool false, .bool false, .int .i64 0, .int .u64 0, .int .u64 0, .int .u64 0, .int .u64 0], .int .i64 0, .int .i64 1]) ∧ Below w.heap.size w w' := by
  have hsm := cell_set_map
  go_enter Tryd.func9, Tryd.ntmps9
  go_wp2_with (first
    | (go_at_call 10; refine (c18 _).mono ?_; rintro r w1 ⟨rfl, rfl⟩)
    | (go_at_call 29; refine (c16 _).mono ?_; rintro r w1 ⟨rfl, rfl⟩))
  exact bodyPost_ret (v := .tuple #[.agg #[.int .i64 0, .bool false, .bool false, .int .i64 0, .int .u64 0, .int .u64 0, .int .u64 0, .int .u64 0], .int .i64 0, .int .i64 1]) (by simp only [results, Tryd.results9]; go_simp) rfl ⟨rfl, bgo⟩
variable (c16 : ∀ W, Calls Tryd.prog 29 #[.int .i64 d] W fun r w' => r = .returned (.bool true) ∧ W = w')
include c16
set_option maxHeartbeats 2000000 in
theorem rd15_z (h : sd = 0) :
    Calls Tryd.prog 9 #[.int .i64 n, .int .i64 d, .bool s, vn, vd, .int .i64 x, .int .i64 y] w fun r w' => r = .returned (.tuple #[.agg #[.int .i64 0, .bool false, .bool false, .int .i64 0, .int .u64 0, .int .u64 0, .int .u64 0, .int .u64 0], .int .i64 0, .int .i64 1]) ∧ Below w.heap.size w w' := by
  subst h
  have hsm := cell_set_map
  go_enter Tryd.func9, Tryd.ntmps9
  go_wp2_with (first
    | (go_at_call 10; refine (c18 _).mono ?_; rintro r w1 ⟨rfl, rfl⟩)
    | (go_at_call 29; refine (c16 _).mono ?_; rintro r w1 ⟨rfl, rfl⟩)
    | (go_at_call_of 11 vd; refine (c19d _ bgo).mono ?_; rintro r w1 ⟨rfl, rfl⟩))
  exact bodyPost_ret (v := .tuple #[.agg #[.int .i64 0, .bool false, .bool false, .int .i64 0, .int .u64 0, .int .u64 0, .int .u64 0, .int .u64 0], .int .i64 0, .int .i64 1]) (by simp only [results, Tryd.results9]; go_simp) rfl ⟨rfl, bgo⟩
variable (hd0 : ((sd : Int) == 0) = false)
include hd0
set_option maxHeartbeats 2000000 in
theorem rd15_ln (h : (400 : Int) < sn) :
    Calls Tryd.prog 9 #[.int .i64 n, .int .i64 d, .bool s, vn, vd, .int .i64 x, .int .i64 y] w fun r w' => r = .returned (.tuple #[.agg #[.int .i64 0, .bool false, .bool false, .int .i64 0, .int .u64 0, .int .u64 0, .int .u64 0, .int .u64 0], .int .i64 0, .int .i64 4]) ∧ Below w.heap.size w w' := by
  have hsm := cell_set_map
  go_enter Tryd.func9, Tryd.ntmps9
  go_wp2_with (first
    | (go_at_call 10; refine (c18 _).mono ?_; rintro r w1 ⟨rfl, rfl⟩)
    | (go_at_call 29; refine (c16 _).mono ?_; rintro r w1 ⟨rfl, rfl⟩)
    | (go_at_call_of 11 vd; refine (c19d _ bgo).mono ?_; rintro r w1 ⟨rfl, rfl⟩; clear c19d)
    | (go_at_call_of 11 vn; refine (c19 _ bgo).mono ?_; rintro r w1 ⟨rfl, rfl⟩))
  exact bodyPost_ret (v := .tuple #[.agg #[.int .i64 0, .bool false, .bool false, .int .i64 0, .int .u64 0, .int .u64 0, .int .u64 0, .int .u64 0], .int .i64 0, .int .i64 4]) (by simp only [results, Tryd.results9]; go_simp) rfl ⟨rfl, bgo⟩
set_option maxHeartbeats 2000000 in
theorem rd15_ld (h : ¬ (400 : Int) < sn) (h' : (400 : Int) < sd) :
    Calls Tryd.prog 9 #[.int .i64 n, .int .i64 d, .bool s, vn, vd, .int .i64 x, .int .i64 y] w fun r w' => r = .returned (.tuple #[.agg #[.int .i64 0, .bool false, .bool false, .int .i64 0, .int .u64 0, .int .u64 0, .int .u64 0, .int .u64 0], .int .i64 0, .int .i64 4]) ∧ Below w.heap.size w w' := by
  have hsm := cell_set_map
  go_enter Tryd.func9, Tryd.ntmps9
  go_wp2_with (first
    | (go_at_call 10; refine (c18 _).mono ?_; rintro r w1 ⟨rfl, rfl⟩)
    | (go_at_call 29; refine (c16 _).mono ?_; rintro r w1 ⟨rfl, rfl⟩)
    | (go_at_call_of 11 vd; refine (c19d _ bgo).mono ?_; rintro r w1 ⟨rfl, rfl⟩)
    | (go_at_call_of 11 vn; refine (c19 _ bgo).mono ?_; rintro r w1 ⟨rfl, rfl⟩))
  exact bodyPost_ret (v := .tuple #[.agg #[.int .i64 0, .bool false, .bool false, .int .i64 0, .int .u64 0, .int .u64 0, .int .u64 0, .int .u64 0], .int .i64 0, .int .i64 4]) (by simp only [results, Tryd.results9]; go_simp) rfl ⟨rfl, bgo⟩
set_option maxHeartbeats 2000000 in
theorem rd15_k (h : ¬ (400 : Int) < sn) (h' : ¬ (400 : Int) < sd) (N D : Nat) (vc vx V0 V1 V2 V3 : Int) (vs vg : Bool) (F : Int)
    (c35 : ∀ W, Below w.heap.size w W → Calls Tryd.prog 31 #[vn] W fun r w' => ∃ v, r = .returned v ∧ NT 2001 N v w' ∧ Below W.heap.size W w')
    (c35d : ∀ W, Below w.heap.size w W → Calls Tryd.prog 31 #[vd] W fun r w' => ∃ v, r = .returned v ∧ NT 2001 D v w' ∧ Below W.heap.size W w')
    (c34 : ∀ W v v', NT 2001 N v W → NT 2001 D v' W → Calls Tryd.prog 30 #[.int .i64 n, .int .i64 d, .bool s, v, v', .int .i64 x, .int .i64 y] W fun r w' => r = .returned (.tuple #[.agg #[.int .i64 vc, .bool vs, .bool vg, .int .i64 vx, .int .u64 V0, .int .u64 V1, .int .u64 V2, .int .u64 V3], .int .i64 F]) ∧ Below W.heap.size W w') :
    Calls Tryd.prog 9 #[.int .i64 n, .int .i64 d, .bool s, vn, vd, .int .i64 x, .int .i64 y] w fun r w' => r = .returned (.tuple #[.agg #[.int .i64 vc, .bool vs, .bool vg, .int .i64 vx, .int .u64 V0, .int .u64 V1, .int .u64 V2, .int .u64 V3], .int .i64 F, .int .i64 0]) ∧ Below w.heap.size w w' := by
  have hsm := cell_set_map
  go_enter Tryd.func9, Tryd.ntmps9
  go_upto_region 5 with (first
    | (go_at_call 10; refine (c18 _).mono ?_; rintro r w1 ⟨rfl, rfl⟩)
    | (go_at_call 29; refine (c16 _).mono ?_; rintro r w1 ⟨rfl, rfl⟩)
    | (go_at_call_of 11 vd; refine (c19d _ bgo).mono ?_; rintro r w1 ⟨rfl, rfl⟩)
    | (go_at_call_of 11 vn; refine (c19 _ bgo).mono ?_; rintro r w1 ⟨rfl, rfl⟩))
  go_wp2_with (first
    | (go_at_call_of 31 vn; refine (c35 _ bgo).mono ?_; rintro r w2 ⟨v2, rfl, h2, hb2⟩; clear c35; obtain ⟨hc2, hf2⟩ := bcell hb2; have hz2_0 : w.heap.size < w2.heap.size := lt_below hb2 ltg; have hl2_0 := Nat.le_of_lt hz2_0; have hA2 := bnext (w0 := w) bgo hb2; have hs2 := hA2.size; clear hb2)
    | (go_at_call_of 31 vd; refine (c35d _ bgo).mono ?_; rintro r w3 ⟨v3, rfl, h3, hb3⟩; have h2' := h2.next hb3; clear c35d; obtain ⟨hc3, hf3⟩ := bcell hb3; have hz3_0 : w.heap.size < w3.heap.size := lt_below hb3 ltg; have hl3_0 := Nat.le_of_lt hz3_0; have hA3 := bnext (w0 := w) bgo hb3; have hs3 := hA3.size; clear hb3)
    | (go_at_call 30; refine (c34 _ _ _ h2' h3).mono ?_; rintro r w4 ⟨rfl, hb4⟩; obtain ⟨hc4, hf4⟩ := bcell hb4; have hz4_0 : w.heap.size < w4.heap.size := lt_below hb4 ltg; have hl4_0 := Nat.le_of_lt hz4_0; have hA4 := bnext (w0 := w) bgo hb4; have hs4 := hA4.size; clear hb4))
  exact bodyPost_ret (v := .tuple #[.agg #[.int .i64 vc, .bool vs, .bool vg, .int .i64 vx, .int .u64 V0, .int .u64 V1, .int .u64 V2, .int .u64 V3], .int .i64 F, .int .i64 0]) (by simp only [results, Tryd.results9]; go_simp) rfl ⟨rfl, bgo⟩
end
/-- the exponent of a fraction's first digit -/
noncomputable def tnX (N D : Nat) : Int := open Classical in if h : ∃ E, TnE N D E then Classical.choose h else 0
theorem tnX_is {N D : Nat} (hN : 0 < N) (hD : 0 < D) : TnE N D (tnX N D) := by
  have h := tnE_ex hN hD
  unfold tnX
  rw [dif_pos h]
  exact Classical.choose_spec h
/-- what decround answers -/
def rqE (n d : Int) (N D : Nat) : Int := if decN n ∧ knB d ∧ D ≠ 0 then (if 25600 < bl N ∨ 25600 < bl D then 4 else 0) else 1
noncomputable def rqD (n d : Int) (s : Bool) (N D : Nat) (x y : Int) : Dat :=
  if rqE n d N D = 0 then (if N = 0 then ⟨1, s, false, min (max y (fD n).l) (fD n).m, 0⟩ else dkD (fD n) d s (N * 10 ^ (clT x).toNat) (D * 10 ^ (-(clT x)).toNat) (tnX (N * 10 ^ (clT x).toNat) (D * 10 ^ (-(clT x)).toNat)) y) else ⟨0, false, false, 0, 0⟩
noncomputable def rqF (n d : Int) (s : Bool) (N D : Nat) (x : Int) : Int :=
  if rqE n d N D = 0 then (if N = 0 then 0 else dkF (fD n) d s (N * 10 ^ (clT x).toNat) (D * 10 ^ (-(clT x)).toNat) (tnX (N * 10 ^ (clT x).toNat) (D * 10 ^ (-(clT x)).toNat))) else 0
theorem rq_zero {n d : Int} {N D : Nat} (h : rqE n d N D = 0) : decN n ∧ knB d ∧ D ≠ 0 ∧ bl N ≤ 25600 ∧ bl D ≤ 25600 := by
  unfold rqE at h
  split at h
  · rename_i h1
    split at h
    · omega
    · rename_i h2
      exact ⟨h1.1, h1.2.1, h1.2.2, by omega, by omega⟩
  · omega
theorem rq_not {n d : Int} {s : Bool} {N D : Nat} {x y : Int} (h : rqE n d N D ≠ 0) : (rqD n d s N D x y).v = .agg #[.int .i64 0, .bool false, .bool false, .int .i64 0, .int .u64 0, .int .u64 0, .int .u64 0, .int .u64 0] ∧ rqF n d s N D x = 0 := by
  unfold rqD rqF
  rw [if_neg h, if_neg h]
  refine ⟨?_, rfl⟩
  unfold Dat.v DV
  simp only [W4_zero]
theorem rd15_any (n d x y : Int) (s : Bool) {N D : Nat} {vn vd : Value} {w : World} (hn : Nt 2001 N vn w) (hd : Nt 2001 D vd w) :
    Calls Tryd.prog 9 #[.int .i64 n, .int .i64 d, .bool s, vn, vd, .int .i64 x, .int .i64 y] w fun r w' => r = .returned (.tuple #[(rqD n d s N D x y).v, .int .i64 (rqF n d s N D x), .int .i64 (rqE n d N D)]) ∧ Below w.heap.size w w' := by
  obtain ⟨sn, ⟨n1, n2, n3⟩, c19⟩ := rsize_nt (by decide) hn
  obtain ⟨sd, ⟨d1, d2, d3⟩, c19d⟩ := rsize_nt (by decide) hd
  have e400 := n3 400
  have f400 := d3 400
  by_cases hb : decN n
  · have c18 : ∀ W, Calls Tryd.prog 10 #[.int .i64 n] W fun r w' => r = .returned (.bool true) ∧ W = w' := fun W => by
      have := rdecimal_any n W
      rw [decide_eq_true hb] at this
      exact this
    by_cases hk : knB d
    · have c16 : ∀ W, Calls Tryd.prog 29 #[.int .i64 d] W fun r w' => r = .returned (.bool true) ∧ W = w' := fun W => by
        have := rdir_any d W
        rw [decide_eq_true hk] at this
        exact this
      by_cases hD : D = 0
      · have e : rqE n d N D = 1 := if_neg fun h => h.2.2 hD
        obtain ⟨q1, q2⟩ := rq_not (s := s) (x := x) (y := y) (show rqE n d N D ≠ 0 by omega)
        rw [e, q1, q2]
        exact rd15_z n d x y s vn vd w sn sd (by omega) (by omega) c19 c19d c18 c16 (d2.2 hD)
      · have hd0 : ((sd : Int) == 0) = false := by
          rw [beq_eq_false_iff_ne]
          intro e
          exact hD (d2.1 (by omega))
        have e0 : rqE n d N D = if 25600 < bl N ∨ 25600 < bl D then 4 else 0 := if_pos ⟨hb, hk, hD⟩
        by_cases hln : 25600 < bl N
        · have e : rqE n d N D = 4 := by rw [e0, if_pos (Or.inl hln)]
          obtain ⟨q1, q2⟩ := rq_not (s := s) (x := x) (y := y) (show rqE n d N D ≠ 0 by omega)
          rw [e, q1, q2]
          exact rd15_ln n d x y s vn vd w sn sd (by omega) (by omega) c19 c19d c18 c16 hd0 (by omega)
        · by_cases hl2 : 25600 < bl D
          · have e : rqE n d N D = 4 := by rw [e0, if_pos (Or.inr hl2)]
            obtain ⟨q1, q2⟩ := rq_not (s := s) (x := x) (y := y) (show rqE n d N D ≠ 0 by omega)
            rw [e, q1, q2]
            exact rd15_ld n d x y s vn vd w sn sd (by omega) (by omega) c19 c19d c18 c16 hd0 (by omega) (by omega)
          · have e : rqE n d N D = 0 := by rw [e0, if_neg (by omega)]
            unfold rqD rqF
            rw [e, if_pos rfl, if_pos rfl]
            have c34 : ∀ W v v', NT 2001 N v W → NT 2001 D v' W → Calls Tryd.prog 30 #[.int .i64 n, .int .i64 d, .bool s, v, v', .int .i64 x, .int .i64 y] W fun r w' => r = .returned (.tuple #[(if N = 0 then (⟨1, s, false, min (max y (fD n).l) (fD n).m, 0⟩ : Dat) else dkD (fD n) d s (N * 10 ^ (clT x).toNat) (D * 10 ^ (-(clT x)).toNat) (tnX (N * 10 ^ (clT x).toNat) (D * 10 ^ (-(clT x)).toNat)) y).v, .int .i64 (if N = 0 then 0 else dkF (fD n) d s (N * 10 ^ (clT x).toNat) (D * 10 ^ (-(clT x)).toNat) (tnX (N * 10 ^ (clT x).toNat) (D * 10 ^ (-(clT x)).toNat)))]) ∧ Below W.heap.size W w' := fun W v v' hv hv' => by
              by_cases hN : N = 0
              · rw [if_pos hN, if_pos hN]
                obtain ⟨gv, kv, cv, rfl, hkv, hzv⟩ := hv.zero
                have hk0 : kv = 0 := hzv.2 hN
                subst hk0
                have cO := fun W => rof_dec hb W
                rw [dec_mo hb] at cO
                have hj := ok_m (fD_ok n)
                have := rnd_z n _ _ (3 * ((fD n).j : Int) + 1) _ _ _ _ _ d s v' x y W (by omega) (by omega) (ok_m (fD_ok n)).2.2.1 (ok_m (fD_ok n)).2.2.2.1 (ok_m (fD_ok n)).1 (ok_m (fD_ok n)).2.1 cO _ _ rfl rfl gv cv
                rw [show (Dat.mk 1 s false (min (max y (fD n).l) (fD n).m) 0).v = .agg #[.int .i64 1, .bool s, .bool false, .int .i64 (min (max y (fD n).l) (fD n).m), .int .u64 0, .int .u64 0, .int .u64 0, .int .u64 0] by unfold Dat.v DV; simp only [W4_zero]]
                exact this
              · rw [if_neg hN, if_neg hN]
                exact rround15 hb hk s x y (Nat.pos_of_ne_zero hN) (Nat.pos_of_ne_zero hD) (hv.fitU (by omega)) (hv'.fitU (by omega)) (tnX_is (Nat.mul_pos (Nat.pos_of_ne_zero hN) (ten_pos _)) (Nat.mul_pos (Nat.pos_of_ne_zero hD) (ten_pos _)))
            exact rd15_k n d x y s vn vd w sn sd (by omega) (by omega) c19 c19d c18 c16 hd0 (by omega) (by omega) N D _ _ _ _ _ _ _ _ _ (fun W hW => rtrim_nt (by decide) (hn.next hW)) (fun W hW => rtrim_nt (by decide) (hd.next hW)) c34
    · have c16 : ∀ W, Calls Tryd.prog 29 #[.int .i64 d] W fun r w' => r = .returned (.bool false) ∧ W = w' := fun W => by
        have := rdir_any d W
        rw [decide_eq_false hk] at this
        exact this
      have e : rqE n d N D = 1 := if_neg fun h => hk h.2.1
      obtain ⟨q1, q2⟩ := rq_not (s := s) (x := x) (y := y) (show rqE n d N D ≠ 0 by omega)
      rw [e, q1, q2]
      exact rd15_d n d x y s vn vd w sn sd (by omega) (by omega) c19 c19d c18 c16
  · have c18 : ∀ W, Calls Tryd.prog 10 #[.int .i64 n] W fun r w' => r = .returned (.bool false) ∧ W = w' := fun W => by
      have := rdecimal_any n W
      rw [decide_eq_false hb] at this
      exact this
    have e : rqE n d N D = 1 := if_neg fun h => hb h.1
    obtain ⟨q1, q2⟩ := rq_not (s := s) (x := x) (y := y) (show rqE n d N D ≠ 0 by omega)
    rw [e, q1, q2]
    exact rd15_n n d x y s vn vd w sn sd (by omega) (by omega) c19 c19d c18
end Go.Proofs.YtmommdhnogogdaaDoor
