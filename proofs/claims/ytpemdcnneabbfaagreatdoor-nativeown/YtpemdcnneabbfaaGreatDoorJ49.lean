/-
  Texts that the proof leans on.
-/
import Derived.Test.YtpemdcnneabbfaaGreatDoorJ46
import Derived.Test.YtpemdcnneabbfaaGreatDoorJ42
import Derived.Test.YtpemdcnneabbfaaGreatDoorJ41
import Derived.Test.YtpemdcnneabbfaaGreatDoorJ3
set_option linter.unusedVariables false
set_option linter.unusedSectionVars false
set_option linter.unusedSimpArgs false
set_option maxRecDepth 20000
namespace Go.Proofs.YtpemdcnneabbfaaGreatDoor
open Go.RowKit
section
attribute [local irreducible] W4 NT NV Nt
section
variable (n d x : Int) (s : Bool) (vn vd : Value) (w : World) (sn sd : Nat) (hsn : sn ≤ 10000) (hsd : sd ≤ 10000)
  (c19 : ∀ W, Below w.heap.size w W → Calls Tryz.prog 16 #[vn] W fun r w' => r = .returned (.int .i64 (sn : Int)) ∧ W = w')
  (c19d : ∀ W, Below w.heap.size w W → Calls Tryz.prog 16 #[vd] W fun r w' => r = .returned (.int .i64 (sd : Int)) ∧ W = w')
include hsn hsd c19 c19d
set_option maxHeartbeats 1000000 in
theorem rb12_n (c18 : ∀ W, Calls Tryz.prog 14 #[.int .i64 n] W fun r w' => r = .returned (.bool false) ∧ w' = W) :
    Calls Tryz.prog 7 #[.int .i64 n, .int .i64 d, .bool s, vn, vd, .int .i64 x] w fun r w' => r = .returned (.tuple #[Z4, .int .i64 0, .int .i64 1]) ∧ Below w.heap.size w w' := by
  have hsm := cell_set_map
  go_enter Tryz.func7, Tryz.ntmps7
  go_wp2_with (go_at_call 14; refine (c18 _).mono ?_; rintro r w1 ⟨rfl, rfl⟩)
  exact bodyPost_ret (v := .tuple #[Z4, .int .i64 0, .int .i64 1]) (by simp only [results, Tryz.results7]; go_simp) rfl ⟨rfl, bgo⟩
variable (c18 : ∀ W, Calls Tryz.prog 14 #[.int .i64 n] W fun r w' => r = .returned (.bool true) ∧ W = w')
include c18
set_option maxHeartbeats 1000000 in
theorem rb12_d (c16 : ∀ W, Calls Tryz.prog 15 #[.int .i64 d] W fun r w' => r = .returned (.bool false) ∧ W = w') :
    Calls Tryz.prog 7 #[.int .i64 n, .int .i64 d, .bool s, vn, vd, .int .i64 x] w fun r w' => r = .returned (.tuple #[Z4, .int .i64 0, .int .i64 1]) ∧ Below w.heap.size w w' := by
  have hsm := cell_set_map
  go_enter Tryz.func7, Tryz.ntmps7
  go_wp2_with (first
    | (go_at_call 14; refine (c18 _).mono ?_; rintro r w1 ⟨rfl, rfl⟩)
    | (go_at_call 15; refine (c16 _).mono ?_; rintro r w1 ⟨rfl, rfl⟩))
  exact bodyPost_ret (v := .tuple #[Z4, .int .i64 0, .int .i64 1]) (by simp only [results, Tryz.results7]; go_simp) rfl ⟨rfl, bgo⟩
variable (c16 : ∀ W, Calls Tryz.prog 15 #[.int .i64 d] W fun r w' => r = .returned (.bool true) ∧ W = w')
include c16
set_option maxHeartbeats 1000000 in
theorem rb12_z (h : sd = 0) :
    Calls Tryz.prog 7 #[.int .i64 n, .int .i64 d, .bool s, vn, vd, .int .i64 x] w fun r w' => r = .returned (.tuple #[Z4, .int .i64 0, .int .i64 1]) ∧ Below w.heap.size w w' := by
  subst h
  have hsm := cell_set_map
  go_enter Tryz.func7, Tryz.ntmps7
  go_wp2_with (first
    | (go_at_call 14; refine (c18 _).mono ?_; rintro r w1 ⟨rfl, rfl⟩)
    | (go_at_call 15; refine (c16 _).mono ?_; rintro r w1 ⟨rfl, rfl⟩)
    | (go_at_call_of 16 vd; refine (c19d _ bgo).mono ?_; rintro r w1 ⟨rfl, rfl⟩))
  exact bodyPost_ret (v := .tuple #[Z4, .int .i64 0, .int .i64 1]) (by simp only [results, Tryz.results7]; go_simp) rfl ⟨rfl, bgo⟩
variable (hd0 : ((sd : Int) == 0) = false)
include hd0
set_option maxHeartbeats 1000000 in
theorem rb12_ln (h : (800 : Int) < sn) :
    Calls Tryz.prog 7 #[.int .i64 n, .int .i64 d, .bool s, vn, vd, .int .i64 x] w fun r w' => r = .returned (.tuple #[Z4, .int .i64 0, .int .i64 4]) ∧ Below w.heap.size w w' := by
  have hsm := cell_set_map
  go_enter Tryz.func7, Tryz.ntmps7
  go_wp2_with (first
    | (go_at_call 14; refine (c18 _).mono ?_; rintro r w1 ⟨rfl, rfl⟩)
    | (go_at_call 15; refine (c16 _).mono ?_; rintro r w1 ⟨rfl, rfl⟩)
    | (go_at_call_of 16 vd; refine (c19d _ bgo).mono ?_; rintro r w1 ⟨rfl, rfl⟩; clear c19d)
    | (go_at_call_of 16 vn; refine (c19 _ bgo).mono ?_; rintro r w1 ⟨rfl, rfl⟩))
  exact bodyPost_ret (v := .tuple #[Z4, .int .i64 0, .int .i64 4]) (by simp only [results, Tryz.results7]; go_simp) rfl ⟨rfl, bgo⟩
set_option maxHeartbeats 1000000 in
theorem rb12_ld (h : ¬ (800 : Int) < sn) (h' : (800 : Int) < sd) :
    Calls Tryz.prog 7 #[.int .i64 n, .int .i64 d, .bool s, vn, vd, .int .i64 x] w fun r w' => r = .returned (.tuple #[Z4, .int .i64 0, .int .i64 4]) ∧ Below w.heap.size w w' := by
  have hsm := cell_set_map
  go_enter Tryz.func7, Tryz.ntmps7
  go_wp2_with (first
    | (go_at_call 14; refine (c18 _).mono ?_; rintro r w1 ⟨rfl, rfl⟩)
    | (go_at_call 15; refine (c16 _).mono ?_; rintro r w1 ⟨rfl, rfl⟩)
    | (go_at_call_of 16 vd; refine (c19d _ bgo).mono ?_; rintro r w1 ⟨rfl, rfl⟩)
    | (go_at_call_of 16 vn; refine (c19 _ bgo).mono ?_; rintro r w1 ⟨rfl, rfl⟩))
  exact bodyPost_ret (v := .tuple #[Z4, .int .i64 0, .int .i64 4]) (by simp only [results, Tryz.results7]; go_simp) rfl ⟨rfl, bgo⟩
set_option maxHeartbeats 1000000 in
theorem rb12_k (h : ¬ (800 : Int) < sn) (h' : ¬ (800 : Int) < sd) (N D V : Nat) (F : Int)
    (c35 : ∀ W, Below w.heap.size w W → Calls Tryz.prog 18 #[vn] W fun r w' => ∃ v, r = .returned v ∧ NT 2001 N v w' ∧ Below W.heap.size W w')
    (c35d : ∀ W, Below w.heap.size w W → Calls Tryz.prog 18 #[vd] W fun r w' => ∃ v, r = .returned v ∧ NT 2001 D v w' ∧ Below W.heap.size W w')
    (c34 : ∀ W v v', NT 2001 N v W → NT 2001 D v' W → Calls Tryz.prog 17 #[.int .i64 n, .int .i64 d, .bool s, v, v', .int .i64 x] W fun r w' => r = .returned (.tuple #[A4 V, .int .i64 F]) ∧ Below W.heap.size W w') :
    Calls Tryz.prog 7 #[.int .i64 n, .int .i64 d, .bool s, vn, vd, .int .i64 x] w fun r w' => r = .returned (.tuple #[A4 V, .int .i64 F, .int .i64 0]) ∧ Below w.heap.size w w' := by
  have hsm := cell_set_map
  go_enter Tryz.func7, Tryz.ntmps7
  go_upto_region 5 with (first
    | (go_at_call 14; refine (c18 _).mono ?_; rintro r w1 ⟨rfl, rfl⟩)
    | (go_at_call 15; refine (c16 _).mono ?_; rintro r w1 ⟨rfl, rfl⟩)
    | (go_at_call_of 16 vd; refine (c19d _ bgo).mono ?_; rintro r w1 ⟨rfl, rfl⟩)
    | (go_at_call_of 16 vn; refine (c19 _ bgo).mono ?_; rintro r w1 ⟨rfl, rfl⟩))
  go_wp2_with (first
    | (go_at_call_of 18 vn; refine (c35 _ bgo).mono ?_; rintro r w2 ⟨v2, rfl, h2, hb2⟩; clear c35; obtain ⟨hc2, hf2⟩ := bcell hb2; have hz2_0 : w.heap.size < w2.heap.size := lt_below hb2 ltg; have hl2_0 := Nat.le_of_lt hz2_0; have hA2 := bnext (w0 := w) bgo hb2; have hs2 := hA2.size; clear hb2)
    | (go_at_call_of 18 vd; refine (c35d _ bgo).mono ?_; rintro r w3 ⟨v3, rfl, h3, hb3⟩; have h2' := h2.next hb3; clear c35d; obtain ⟨hc3, hf3⟩ := bcell hb3; have hz3_0 : w.heap.size < w3.heap.size := lt_below hb3 ltg; have hl3_0 := Nat.le_of_lt hz3_0; have hA3 := bnext (w0 := w) bgo hb3; have hs3 := hA3.size; clear hb3)
    | (go_at_call 17; refine (c34 _ _ _ h2' h3).mono ?_; rintro r w4 ⟨rfl, hb4⟩; obtain ⟨hc4, hf4⟩ := bcell hb4; have hz4_0 : w.heap.size < w4.heap.size := lt_below hb4 ltg; have hl4_0 := Nat.le_of_lt hz4_0; have hA4 := bnext (w0 := w) bgo hb4; have hs4 := hA4.size; clear hb4))
  exact bodyPost_ret (v := .tuple #[A4 V, .int .i64 F, .int .i64 0]) (by simp only [results, Tryz.results7]; go_simp) rfl ⟨rfl, bgo⟩
end
/-- the document's Binary answers as round's -/
theorem rb12_any (n d x : Int) (s : Bool) {N D : Nat} {vn vd : Value} {w : World} (hn : Nt 2001 N vn w) (hd : Nt 2001 D vd w) :
    Calls Tryz.prog 7 #[.int .i64 n, .int .i64 d, .bool s, vn, vd, .int .i64 x] w fun r w' => r = .returned (.tuple #[A4 (rnV n d s N D x), .int .i64 (rnF n d s N D x), .int .i64 (rnE n d N D)]) ∧ Below w.heap.size w w' := by
  obtain ⟨sn, ⟨n1, n2, n3⟩, c19⟩ := rsize_nt (by decide) hn
  obtain ⟨sd, ⟨d1, d2, d3⟩, c19d⟩ := rsize_nt (by decide) hd
  have e800 := n3 800
  have f800 := d3 800
  by_cases hb : binN n
  · have c18 : ∀ W, Calls Tryz.prog 14 #[.int .i64 n] W fun r w' => r = .returned (.bool true) ∧ W = w' := fun W => by
      have := rbinary_any n W
      rw [decide_eq_true hb] at this
      exact this.mono fun _ _ ⟨h1, h2⟩ => ⟨h1, h2.symm⟩
    by_cases hk : knB d
    · have c16 : ∀ W, Calls Tryz.prog 15 #[.int .i64 d] W fun r w' => r = .returned (.bool true) ∧ W = w' := fun W => by
        have := rdir_any d W
        rw [decide_eq_true hk] at this
        exact this
      by_cases hD : D = 0
      · have e : rnE n d N D = 1 := if_neg fun h => h.2.2 hD
        unfold rnV rnF
        rw [e, if_neg (by decide), if_neg (by decide), A4_zero]
        exact rb12_z n d x s vn vd w sn sd (by omega) (by omega) c19 c19d c18 c16 (d2.2 hD)
      · have hd0 : ((sd : Int) == 0) = false := by
          rw [beq_eq_false_iff_ne]
          intro e
          exact hD (d2.1 (by omega))
        have e0 : rnE n d N D = if 51200 < bl N ∨ 51200 < bl D then 4 else 0 := if_pos ⟨hb, hk, hD⟩
        by_cases hln : 51200 < bl N
        · have e : rnE n d N D = 4 := by rw [e0, if_pos (Or.inl hln)]
          unfold rnV rnF
          rw [e, if_neg (by decide), if_neg (by decide), A4_zero]
          exact rb12_ln n d x s vn vd w sn sd (by omega) (by omega) c19 c19d c18 c16 hd0 (by omega)
        · by_cases hl2 : 51200 < bl D
          · have e : rnE n d N D = 4 := by rw [e0, if_pos (Or.inr hl2)]
            unfold rnV rnF
            rw [e, if_neg (by decide), if_neg (by decide), A4_zero]
            exact rb12_ld n d x s vn vd w sn sd (by omega) (by omega) c19 c19d c18 c16 hd0 (by omega) (by omega)
          · have e : rnE n d N D = 0 := by rw [e0, if_neg (by omega)]
            unfold rnV rnF
            rw [e, if_pos rfl, if_pos rfl]
            have heq := do_eq d s N x hb hD (by omega) (by omega)
            rw [← heq.1, ← heq.2]
            exact rb12_k n d x s vn vd w sn sd (by omega) (by omega) c19 c19d c18 c16 hd0 (by omega) (by omega) N D _ _ (fun W hW => rtrim_nt (by decide) (hn.next hW)) (fun W hW => rtrim_nt (by decide) (hd.next hW)) (fun W v v' hv hv' => round_v n d x s hv hv' hb hk hD (by omega) (by omega))
    · have c16 : ∀ W, Calls Tryz.prog 15 #[.int .i64 d] W fun r w' => r = .returned (.bool false) ∧ W = w' := fun W => by
        have := rdir_any d W
        rw [decide_eq_false hk] at this
        exact this
      have e : rnE n d N D = 1 := if_neg fun h => hk h.2.1
      unfold rnV rnF
      rw [e, if_neg (by decide), if_neg (by decide), A4_zero]
      exact rb12_d n d x s vn vd w sn sd (by omega) (by omega) c19 c19d c18 c16
  · have c18 : ∀ W, Calls Tryz.prog 14 #[.int .i64 n] W fun r w' => r = .returned (.bool false) ∧ w' = W := fun W => by
      have := rbinary_any n W
      rw [decide_eq_false hb] at this
      exact this
    have e : rnE n d N D = 1 := if_neg fun h => hb h.1
    unfold rnV rnF
    rw [e, if_neg (by decide), if_neg (by decide), A4_zero]
    exact rb12_n n d x s vn vd w sn sd (by omega) (by omega) c19 c19d c18
end
end Go.Proofs.YtpemdcnneabbfaaGreatDoor
