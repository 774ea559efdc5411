/-
  Texts that the proof leans on, joined: Gj.
-/
import Derived.Test.YtplocajjfoiklaaGreatDoorR15
import Derived.Test.YtplocajjfoiklaaGreatDoorR1
set_option maxHeartbeats 8000000
set_option linter.unusedVariables false
set_option linter.unusedSimpArgs false
set_option linter.unusedSectionVars false
set_option maxRecDepth 20000
namespace Go.Proofs.YtplocajjfoiklaaGreatDoor
open Go.RowKit
theorem hp_cons (c d : UInt8) (r p : List UInt8) : Lib.hasPrefix (c :: r) (d :: p) = ((d == c) && Lib.hasPrefix r p) := rfl
theorem hp_nil (r : List UInt8) : Lib.hasPrefix r [] = true := by unfold Lib.hasPrefix; cases r <;> rfl
theorem hp_app (p N : List UInt8) : Lib.hasPrefix (p ++ N) p = true := by
 induction p with
 | nil => exact hp_nil _
 | cons c r ih => rw [List.cons_append, hp_cons, ih]; simp
theorem tp_app (p N : List UInt8) : Lib.trimPrefix (p ++ N) p = N := by
 unfold Lib.trimPrefix
 rw [if_pos (hp_app p N)]; simp
theorem tp_no {l p : List UInt8} (h : Lib.hasPrefix l p = false) : Lib.trimPrefix l p = l := by
 unfold Lib.trimPrefix; rw [h]; rfl
theorem hp_take : ∀ {l p : List UInt8}, Lib.hasPrefix l p = true → l = p ++ l.drop p.length
 | l, [], _ => by simp
 | [], d :: p, h => by cases h
 | c :: r, d :: p, h => by
  rw [hp_cons, Bool.and_eq_true] at h
  have e : d = c := by simpa using h.1
  have ih := hp_take h.2
  subst e
  rw [List.length_cons, List.drop_succ_cons, List.cons_append, ← ih]
theorem hp_one (c d : UInt8) (r : List UInt8) : Lib.hasPrefix (c :: r) [d] = (d == c) := by rw [hp_cons, hp_nil, Bool.and_true]
theorem tp_one (c : UInt8) (r : List UInt8) : Lib.trimPrefix (c :: r) [c] = r := tp_app [c] r
theorem nat_ne {c : UInt8} {n : Nat} (h : (c.toNat : Int) ≠ n) (hn : n < 256) : (UInt8.ofNat n == c) = false := by
 rw [beq_eq_false_iff_ne]
 intro e
 apply h
 rw [← e]
 simp
 omega
theorem nat_eq {c : UInt8} {n : Nat} (h : (c.toNat : Int) = n) (hn : n < 256) : c = UInt8.ofNat n := by
 apply UInt8.toNat_inj.1
 simp
 omega
/-! a payload, as the document cuts it -/
theorem dgs_app {m : List UInt8} (h : m.all dg = true) (q : UInt8) (hq : dg q = false) : dgs (m ++ [q]) = m ∧ rst (m ++ [q]) = [q] := by
 have h1 : dgs (m ++ [q]) = m := by
  unfold dgs
  rw [List.takeWhile_append_of_pos (List.all_eq_true.1 h), List.takeWhile_cons, hq]
  simp
 refine ⟨h1, ?_⟩
 have := dgs_rst (m ++ [q])
 rw [h1] at this
 simpa using this
theorem pa_short {c : UInt8} {r : List UInt8} (h : r.length < 2) : paB (c :: r) = false := by
 unfold paB
 rw [List.isEmpty_cons, Bool.false_or, hp_one]
 by_cases e : (40 == c) = true
 ·have e' : (40 : UInt8) = c := by simpa using e
  subst e'
  rw [tp_one]
  by_cases hr : rst r = [41]
  ·have h2 := congrArg List.length (dgs_rst r)
   rw [List.length_append, hr] at h2
   simp at h2
   have : dgs r = [] := List.eq_nil_of_length_eq_zero (by omega)
   rw [this]; simp
  ·rw [beq_eq_false_iff_ne.2 hr]; simp
 ·rw [show (40 == c) = false by simpa using e]; rfl
theorem pa_c {c : UInt8} {r : List UInt8} (h : (c.toNat : Int) ≠ 40) : paB (c :: r) = false := by
 unfold paB
 rw [List.isEmpty_cons, Bool.false_or, hp_one, show (40 == c) = false from nat_ne (n := 40) h (by decide)]
 rfl
theorem last_eq {α : Type} {a b : List α} {x y : α} (h : a ++ [x] = b ++ [y]) : a = b ∧ x = y := by
 have := List.append_inj_right' h rfl
 have h2 := List.append_inj_left' h rfl
 exact ⟨h2, by simpa using this⟩
theorem pa_q {q : UInt8} {m : List UInt8} (h : (q.toNat : Int) ≠ 41) : paB (40 :: (m ++ [q])) = false := by
 unfold paB
 rw [List.isEmpty_cons, Bool.false_or, tp_one]
 by_cases hr : rst (m ++ [q]) = [41]
 ·have h2 := dgs_rst (m ++ [q])
  rw [hr] at h2
  have := (last_eq h2).2
  rw [← this] at h
  exact absurd rfl h
 ·rw [beq_eq_false_iff_ne.2 hr]; simp
theorem dg_41 : dg 41 = false := by decide
theorem pa_d {m : List UInt8} (h : isd m = false) : paB (40 :: (m ++ [41])) = false := by
 unfold paB
 rw [List.isEmpty_cons, Bool.false_or, tp_one]
 by_cases hr : rst (m ++ [41]) = [41]
 ·have h2 := dgs_rst (m ++ [41])
  rw [hr] at h2
  have h3 := (last_eq h2).1
  by_cases hm : m = []
  ·rw [h3, hm]; simp
  ·have : isd m = true := by
    unfold isd
    rw [← h3, all_dgs, h3]
    simpa using hm
   rw [this] at h; cases h
 ·rw [beq_eq_false_iff_ne.2 hr]; simp
theorem pa_y {m : List UInt8} (h : isd m = true) : paB (40 :: (m ++ [41])) = true ∧ paD (40 :: (m ++ [41])) = m := by
 obtain ⟨h1, h2⟩ := dgs_app (isd_all h) 41 dg_41
 have hne : m.isEmpty = false := by
  unfold isd at h; rw [Bool.and_eq_true] at h; simpa using h.2
 unfold paB paD
 rw [List.isEmpty_cons, Bool.false_or, tp_one, h1, h2, hne, hp_one]
 exact ⟨rfl, rfl⟩
/-! the whole -/
def WB (x : List UInt8) : Bool := infB x || nanB x
def WV (x : List UInt8) : Value := if infB x then PV 2 false false [] 0 else if nanB x then PV 3 false (Lib.hasPrefix x [115]) (bar (paD (nanR x))) 0 else PV 0 false false [] 0
theorem w_no {x : List UInt8} (hi : infB x = false) (hn : nanB x = false) : WB x = false ∧ WV x = PV 0 false false [] 0 := by
 unfold WB WV; rw [hi, hn]; exact ⟨rfl, rfl⟩
theorem w_yes {x : List UInt8} {g : Bool} {D : List UInt8} (hi : infB x = false) (hn : nanB x = true) (hg : Lib.hasPrefix x [115] = g) (hD : bar (paD (nanR x)) = D) : WB x = true ∧ WV x = PV 3 false g D 0 := by
 unfold WB WV; rw [hi, hn, hg, hD]; exact ⟨rfl, rfl⟩
theorem nan_T {x T : List UInt8} (hT : Lib.trimPrefix x [115] = T) (h : Lib.hasPrefix T [110, 97, 110] = false) : nanB x = false := by
 unfold nanB; rw [hT, h]; rfl
theorem nan_N {x T N : List UInt8} (hT : Lib.trimPrefix x [115] = T) (h : T = 110 :: 97 :: 110 :: N) : nanB x = paB N ∧ nanR x = N := by
 have e : nanR x = N := by unfold nanR; rw [hT, h]; exact tp_app [110, 97, 110] N
 unfold nanB; rw [e, hT, h]
 exact ⟨by rw [show Lib.hasPrefix (110 :: 97 :: 110 :: N) [110, 97, 110] = true from hp_app [110, 97, 110] N, Bool.true_and], rfl⟩
theorem split_N (N : List UInt8) : N = [] ∨ (∃ c r, N = c :: r ∧ r.length < 2) ∨ ∃ c m q, N = c :: (m ++ [q]) ∧ 1 ≤ m.length := by
 cases N with
 | nil => exact Or.inl rfl
 | cons c r =>
  rcases Nat.lt_or_ge r.length 2 with h | h
  ·exact Or.inr (Or.inl ⟨c, r, rfl, h⟩)
  ·refine Or.inr (Or.inr ⟨c, r.dropLast, r.getLast (by intro e; rw [e] at h; simp at h), ?_, by simp; omega⟩)
   rw [List.dropLast_concat_getLast]
theorem split_T (T : List UInt8) : T.length < 3 ∨ (3 ≤ T.length ∧ T.take 3 ≠ [110, 97, 110]) ∨ ∃ N, T = 110 :: 97 :: 110 :: N := by
 rcases Nat.lt_or_ge T.length 3 with h | h
 ·exact Or.inl h
 ·by_cases e : T.take 3 = [110, 97, 110]
  ·refine Or.inr (Or.inr ⟨T.drop 3, ?_⟩)
   rw [← List.take_append_drop 3 T, e]
   simp
  ·exact Or.inr (Or.inl ⟨h, e⟩)
theorem hp_nan_no {T : List UInt8} (h : T.length < 3 ∨ T.take 3 ≠ [110, 97, 110]) : Lib.hasPrefix T [110, 97, 110] = false := by
 cases e : Lib.hasPrefix T [110, 97, 110]
 ·rfl
 ·have := hp_take e
  rcases h with h | h
  ·have h2 := congrArg List.length this
   simp at h2; omega
  ·exact absurd (by rw [this]; rfl) h
def Res (s x : List UInt8) (w : World) : Prop := Calls Tryz.prog 92 #[.string (B s)] w fun e w' => e = .returned (.tuple #[WV x, .bool (WB x)]) ∧ Below w.heap.size w w'
def Sma (s x : List UInt8) : Prop := ∀ w, Calls Tryz.prog 39 #[.string (B s)] w fun e w' => e = .returned (.string (B x)) ∧ Below w.heap.size w w'
theorem rword_i (s : List UInt8) (w : World) (c33 : Sma s [105, 110, 102]) : Res s [105, 110, 102] w := by
 have htl := B_toList
 unfold Sma at c33
 show Calls Tryz.prog 92 #[.string (B s)] w fun e w' => e = .returned (.tuple #[PV 2 false false [] 0, .bool true]) ∧ Below w.heap.size w w'
 unfold PV
 go_enter Tryz.func92, Tryz.ntmps92
 go_wp2_with (first | (go_at_call 39; refine (c33 _).mono ?_; rintro x w1 ⟨rfl, hb1⟩; obtain ⟨hc1, hf1, hz1_0, hl1_0, hA1, hs1⟩ := wz w hb1 w.heap.size; clear hb1))
 exact bodyPost_ret (v := .tuple #[.agg #[.int .i64 2, .bool false, .bool false, .string ⟨#[]⟩, .int .i64 0], .bool true]) (by simp only [results, Tryz.results92]; go_simp) rfl ⟨rfl, bgo⟩
theorem rword_j (s : List UInt8) (w : World) (c33 : Sma s [105, 110, 102, 105, 110, 105, 116, 121]) : Res s [105, 110, 102, 105, 110, 105, 116, 121] w := by
 have htl := B_toList
 unfold Sma at c33
 show Calls Tryz.prog 92 #[.string (B s)] w fun e w' => e = .returned (.tuple #[PV 2 false false [] 0, .bool true]) ∧ Below w.heap.size w w'
 unfold PV
 go_enter Tryz.func92, Tryz.ntmps92
 go_wp2_with (first | (go_at_call 39; refine (c33 _).mono ?_; rintro x w1 ⟨rfl, hb1⟩; obtain ⟨hc1, hf1, hz1_0, hl1_0, hA1, hs1⟩ := wz w hb1 w.heap.size; clear hb1))
 exact bodyPost_ret (v := .tuple #[.agg #[.int .i64 2, .bool false, .bool false, .string ⟨#[]⟩, .int .i64 0], .bool true]) (by simp only [results, Tryz.results92]; go_simp) rfl ⟨rfl, bgo⟩
theorem rword_0 (s : List UInt8) (w : World) (c33 : Sma s []) : Res s [] w := by
 have htl := B_toList
 have hsz : (B []).size = 0 := rfl
 unfold Sma at c33
 have hsm := gcell_set_map
 show Calls Tryz.prog 92 #[.string (B s)] w fun e w' => e = .returned (.tuple #[PV 0 false false [] 0, .bool false]) ∧ Below w.heap.size w w'
 unfold PV
 go_enter Tryz.func92, Tryz.ntmps92
 go_wp2_with (first | (go_at_call 39; refine (c33 _).mono ?_; rintro x w1 ⟨rfl, hb1⟩; obtain ⟨hc1, hf1, hz1_0, hl1_0, hA1, hs1⟩ := wz w hb1 w.heap.size; clear hb1))
 exact bodyPost_ret (v := .tuple #[.agg #[.int .i64 0, .bool false, .bool false, .string ⟨#[]⟩, .int .i64 0], .bool false]) (by simp only [results, Tryz.results92]; go_simp) rfl ⟨rfl, bgo⟩
theorem res_of {s x : List UInt8} {w : World} {v : Value} {b : Bool} (h : WB x = b ∧ WV x = v) (c : Calls Tryz.prog 92 #[.string (B s)] w fun e w' => e = .returned (.tuple #[v, .bool b]) ∧ Below w.heap.size w w') : Res s x w := by
 unfold Res; rw [h.1, h.2]; exact c
theorem inf_no {x : List UInt8} (h1 : x ≠ [105, 110, 102]) (h2 : x ≠ [105, 110, 102, 105, 110, 105, 116, 121]) : infB x = false := by
 unfold infB; rw [beq_eq_false_iff_ne.2 h1, beq_eq_false_iff_ne.2 h2]; rfl
theorem rword_s (s T : List UInt8) (w : World) (hT : T.length < 10001) (c33 : Sma s (115 :: T)) : Res s (115 :: T) w := by
 have h1 : (115 :: T) ≠ [105, 110, 102] := by intro h; cases h
 have h2 : (115 :: T) ≠ [105, 110, 102, 105, 110, 105, 116, 121] := by intro h; cases h
 have hi := inf_no h1 h2
 have hTT : Lib.trimPrefix (115 :: T) [115] = T := tp_one 115 T
 have hg : Lib.hasPrefix (115 :: T) [115] = true := hp_one 115 115 T
 rcases split_T T with h | ⟨h, h'⟩ | ⟨N, rfl⟩
 ·exact res_of (w_no hi (nan_T hTT (hp_nan_no (Or.inl h)))) (rword_sr1 s T h w h1 h2 c33)
 ·exact res_of (w_no hi (nan_T hTT (hp_nan_no (Or.inr h')))) (rword_sr2 s T h hT h' w h1 h2 c33)
 ·obtain ⟨e1, e2⟩ := nan_N hTT rfl
  rcases split_N N with rfl | ⟨c, r, rfl, hr⟩ | ⟨c, m, q, rfl, hm⟩
  ·exact res_of (w_yes hi (by rw [e1]; rfl) hg (by rw [e2]; rfl)) (rword_sr3 s w (by decide) (by decide) c33)
  ·exact res_of (w_no hi (by rw [e1]; exact pa_short hr)) (rword_sr4 s c r hr w h1 h2 c33)
  ·have hml : m.length < 10001 := by simp at hT; omega
   by_cases hc : (c.toNat : Int) = 40
   ·obtain rfl : c = 40 := nat_eq (n := 40) hc (by decide)
    by_cases hq : (q.toNat : Int) = 41
    ·obtain rfl : q = 41 := nat_eq (n := 41) hq (by decide)
     by_cases hd : isd m = true
     ·exact res_of (w_yes hi (by rw [e1]; exact (pa_y hd).1) hg (by rw [e2, (pa_y hd).2])) (rword_sr8 s m hm hml hd w h1 h2 c33)
     ·exact res_of (w_no hi (by rw [e1]; exact pa_d (by simpa using hd))) (rword_sr7 s m hm hml (by simpa using hd) w h1 h2 c33)
    ·exact res_of (w_no hi (by rw [e1]; exact pa_q hq)) (rword_sr6 s q m hm hml hq w h1 h2 c33)
   ·exact res_of (w_no hi (by rw [e1]; exact pa_c hc)) (rword_sr5 s c q m hm hml hc w h1 h2 c33)
theorem rword_p (s : List UInt8) (c0 : UInt8) (r0 : List UInt8) (w : World) (hT : (c0 :: r0).length < 10001) (hc0 : (c0.toNat : Int) ≠ 115) (h1 : (c0 :: r0) ≠ [105, 110, 102]) (h2 : (c0 :: r0) ≠ [105, 110, 102, 105, 110, 105, 116, 121]) (c33 : Sma s (c0 :: r0)) : Res s (c0 :: r0) w := by
 have hi := inf_no h1 h2
 have hg : Lib.hasPrefix (c0 :: r0) [115] = false := by rw [hp_one]; exact nat_ne (n := 115) hc0 (by decide)
 have hTT : Lib.trimPrefix (c0 :: r0) [115] = c0 :: r0 := tp_no hg
 generalize hTe : c0 :: r0 = T at *
 rcases split_T T with h | ⟨h, h'⟩ | ⟨N, rfl⟩
 ·exact res_of (w_no hi (nan_T hTT (hp_nan_no (Or.inl h)))) (rword_pr1 s T h c0 r0 hTe.symm hc0 w h1 h2 c33)
 ·exact res_of (w_no hi (nan_T hTT (hp_nan_no (Or.inr h')))) (rword_pr2 s T h hT h' c0 r0 hTe.symm hc0 w h1 h2 c33)
 ·obtain ⟨e1, e2⟩ := nan_N hTT rfl
  clear hTe
  rcases split_N N with rfl | ⟨c, r, rfl, hr⟩ | ⟨c, m, q, rfl, hm⟩
  ·exact res_of (w_yes hi (by rw [e1]; rfl) hg (by rw [e2]; rfl)) (rword_pr3 s w (by decide) (by decide) c33)
  ·exact res_of (w_no hi (by rw [e1]; exact pa_short hr)) (rword_pr4 s c r hr w h1 h2 c33)
  ·have hml : m.length < 10001 := by simp at hT; omega
   by_cases hc : (c.toNat : Int) = 40
   ·obtain rfl : c = 40 := nat_eq (n := 40) hc (by decide)
    by_cases hq : (q.toNat : Int) = 41
    ·obtain rfl : q = 41 := nat_eq (n := 41) hq (by decide)
     by_cases hd : isd m = true
     ·exact res_of (w_yes hi (by rw [e1]; exact (pa_y hd).1) hg (by rw [e2, (pa_y hd).2])) (rword_pr8 s m hm hml hd w h1 h2 c33)
     ·exact res_of (w_no hi (by rw [e1]; exact pa_d (by simpa using hd))) (rword_pr7 s m hm hml (by simpa using hd) w h1 h2 c33)
    ·exact res_of (w_no hi (by rw [e1]; exact pa_q hq)) (rword_pr6 s q m hm hml hq w h1 h2 c33)
   ·exact res_of (w_no hi (by rw [e1]; exact pa_c hc)) (rword_pr5 s c q m hm hml hc w h1 h2 c33)
theorem rword_any (s : List UInt8) (w : World) (hs : s.length < 10001) :
  Calls Tryz.prog 92 #[.string (B s)] w fun e w' => e = .returned (.tuple #[woV s, .bool (woB s)]) ∧ Below w.heap.size w w' := by
 have c33 : Sma s (sml s) := fun w => rsmall_any s w hs
 show Res s (sml s) w
 have hl := sml_len s
 generalize sml s = x at *
 by_cases h1 : x = [105, 110, 102]
 ·subst h1; exact rword_i s w c33
 ·by_cases h2 : x = [105, 110, 102, 105, 110, 105, 116, 121]
  ·subst h2; exact rword_j s w c33
  ·cases x with
   | nil => exact rword_0 s w c33
   | cons c r =>
    by_cases hc : (c.toNat : Int) = 115
    ·obtain rfl : c = 115 := nat_eq (n := 115) hc (by decide)
     exact rword_s s r w (by simp at hl; omega) c33
    ·exact rword_p s c r w (by omega) hc h1 h2 c33
end Go.Proofs.YtplocajjfoiklaaGreatDoor
