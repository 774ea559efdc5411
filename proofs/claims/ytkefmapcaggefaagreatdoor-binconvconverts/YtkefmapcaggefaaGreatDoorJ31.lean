/-
  Texts that the proof leans on, joined: We, Rs, Rt, Wf, Sd9, Se9, Sj9, Sk9, Sl9, Xd, Sn9.
-/
import Derived.Test.YtkefmapcaggefaaGreatDoorJ30
import Derived.Test.YtkefmapcaggefaaGreatDoorJ21
import Derived.Test.YtkefmapcaggefaaGreatDoorJ26
import Derived.Deep.RegionWith
import Derived.Test.YtkefmapcaggefaaGreatDoorJ1
import Derived.Test.YtkefmapcaggefaaGreatDoorJ22
import Derived.Test.YtkefmapcaggefaaGreatDoorJ29
import Derived.Test.YtkefmapcaggefaaGreatDoorJ23
import Derived.Test.YtkefmapcaggefaaGreatDoorJ24
import Derived.RegionTactic
import Derived.ChangeAlike
import Derived.BigRegion
import Derived.Laws.Strings2
import Derived.Lib.AppendStr
import Derived.Lib.Builder
import Derived.Deep.AppendLies
import Derived.Test.YtkefmapcaggefaaGreatDoorJ8
import Derived.Laws.BytesArg
import Derived.Test.YtkefmapcaggefaaGreatDoorJ17
import Derived.Test.YtkefmapcaggefaaGreatDoorJ18
import Derived.Test.YtkefmapcaggefaaGreatDoorJ25
set_option linter.unusedVariables false
set_option linter.unusedSectionVars false
set_option linter.unusedSimpArgs false
set_option maxRecDepth 20000
namespace Go.Proofs.YtkefmapcaggefaaGreatDoor
open Go.RowKit
attribute [local irreducible] W4 NT NV

section
variable (n d x : Int) (s : Bool) (gn kn cn : Nat) (vd : Value) (w : World)
variable (nm : ByteArray) (wd : Int) (f e : Nat) (l m : Int) (A B A' B' C : Nat) (K K' : Nat) (RZ RI RL RF : Nat) (E2 E3 E4 E5 : Int) (low q0 : Int) (ex inf : Bool)
  (c47 : ∀ W, Calls Tryz.prog 31 #[.int .i64 n] W fun r w' => r = .returned (.tuple #[IV n nm wd f e l m, .int .i64 0]) ∧ Below W.heap.size W w')
include c47
set_option maxHeartbeats 1000000 in
theorem round_z
    (c66 : ∀ W, Calls Tryz.prog 37 #[.int .i64 n, .agg #[.int .i64 1, .bool s, .bool false, .int .i64 l, .int .u64 0, .int .u64 0, .int .u64 0, .int .u64 0]] W fun r w' => r = .returned (.tuple #[A4 RZ, .int .i64 E2]) ∧ Below W.heap.size W w') :
    Calls Tryz.prog 41 #[.int .i64 n, .int .i64 d, .bool s, .slice (some ⟨gn, 0, none⟩) 0 cn, vd, .int .i64 x] w fun r w' => r = .returned (.tuple #[A4 RZ, .int .i64 0]) ∧ Below w.heap.size w w' := by
  have hsm := cell_set_map
  go_enter Tryz.func41, Tryz.ntmps41
  go_wp2_with (first
    | (go_at_call 31; refine (c47 _).mono ?_; rintro r w1 ⟨rfl, hb1⟩; obtain ⟨hc1, hf1⟩ := bcell hb1; have hz1_0 : w.heap.size < w1.heap.size := lt_below hb1 ltg; have hl1_0 := Nat.le_of_lt hz1_0; have hA1 := bnext (w0 := w) bgo hb1; have hs1 := hA1.size; clear hb1)
    | (go_at_call 37; refine (c66 _).mono ?_; rintro r w2 ⟨rfl, hb2⟩; obtain ⟨hc2, hf2⟩ := bcell hb2; have hz2_0 : w.heap.size < w2.heap.size := lt_below hb2 ltg; have hl2_0 := Nat.le_of_lt hz2_0; have hz2_1 : w1.heap.size < w2.heap.size := lt_below hb2 ltg; have hl2_1 := Nat.le_of_lt hz2_1; have hA2 := bnext (w0 := w) bgo hb2; have hs2 := hA2.size; clear hb2))
  exact bodyPost_ret (v := .tuple #[A4 RZ, .int .i64 0]) (by simp only [results, Tryz.results41]; go_simp) rfl ⟨rfl, bgo⟩
variable (hf : f ≤ 300) (hl : -100000 ≤ l ∧ l ≤ 100000) (hm : -100000 ≤ m ∧ m ≤ 100000) (hld : -3000000 ≤ low ∧ low ≤ 3000000) (hq0 : q0 = max l (low - ((f : Int) + 1) + 1))
  (hkn : ((kn : Int) == 0) = false)
  (c67 : ∀ W, Below w.heap.size w W → Calls Tryz.prog 40 #[.slice (some ⟨gn, 0, none⟩) kn cn, vd, .int .u64 2, .int .i64 x] W fun r w' => ∃ a b, r = .returned (.tuple #[a, b]) ∧ NT K A a w' ∧ NT K B b w' ∧ Below W.heap.size W w')
  (c68 : ∀ W a b, NT K A a W → NT K B b W → Calls Tryz.prog 72 #[a, b] W fun r w' => r = .returned (.int .i64 low) ∧ Below W.heap.size W w')
  (c67b : ∀ W a b k, k = -q0 → NT K A a W → NT K B b W → Calls Tryz.prog 40 #[a, b, .int .u64 2, .int .i64 k] W fun r w' => ∃ a' b', r = .returned (.tuple #[a', b']) ∧ NT K' A' a' w' ∧ NT K' B' b' w' ∧ Below W.heap.size W w')
  (c69 : ∀ W a b, NT K' A' a W → NT K' B' b W → Calls Tryz.prog 73 #[.int .i64 d, .bool s, a, b] W fun r w' => ∃ v, r = .returned (.tuple #[v, .bool ex]) ∧ NV 41002 C v w' ∧ Below W.heap.size W w')
  (c70 : ∀ W v, NV 41002 C v W → Calls Tryz.prog 61 #[v] W fun r w' => r = .returned (.int .i64 (bl C : Int)) ∧ W = w')
  (c71 : ∀ W v, NV 41002 C v W → Calls Tryz.prog 62 #[v, .int .i64 1] W fun r w' => ∃ v' b, r = .returned (.tuple #[v', .bool b]) ∧ NV 41002 (C / 2) v' w' ∧ Below W.heap.size W w')
include hf hl hm hld hq0 hkn c67 c68 c67b c69 c70 c71
set_option maxHeartbeats 8000000 in
theorem round_w (C' : Nat) (q' : Int) (hup : (f : Int) + 1 < (bl C : Int) → C' = C / 2 ∧ q' = q0 + 1) (hno : ¬ (f : Int) + 1 < (bl C : Int) → C' = C ∧ q' = q0)
    (R : Nat) (fl : Int)
    (ho : m < q' → R = (if inf then RI else RL) ∧ fl = 10) (hn : ¬ m < q' → R = RF ∧ fl = if ex then 0 else if low < l + ((f : Int) + 1) - 1 then 12 else 8)
    (c72 : ∀ W, Calls Tryz.prog 74 #[.int .i64 n, .bool s] W fun r w' => r = .returned (.tuple #[A4 RL, .int .i64 E3]) ∧ Below W.heap.size W w')
    (c73 : ∀ W, Calls Tryz.prog 75 #[.int .i64 d, .bool s] W fun r w' => r = .returned (.bool inf) ∧ W = w')
    (c66i : ∀ W, Calls Tryz.prog 37 #[.int .i64 n, .agg #[.int .i64 2, .bool s, .bool false, .int .i64 0, .int .u64 0, .int .u64 0, .int .u64 0, .int .u64 0]] W fun r w' => r = .returned (.tuple #[A4 RI, .int .i64 E4]) ∧ Below W.heap.size W w')
    (c66f : ¬ m < q' → ∀ W, Calls Tryz.prog 37 #[.int .i64 n, DV 1 s false q' C'] W fun r w' => r = .returned (.tuple #[A4 RF, .int .i64 E5]) ∧ Below W.heap.size W w') :
    Calls Tryz.prog 41 #[.int .i64 n, .int .i64 d, .bool s, .slice (some ⟨gn, 0, none⟩) kn cn, vd, .int .i64 x] w fun r w' => r = .returned (.tuple #[A4 R, .int .i64 fl]) ∧ Below w.heap.size w w' := by
  have hsm := cell_set_map
  have hds : ∀ W : World, W.drew.heap.size = W.heap.size := fun W => by simp
  have hqb : -4000000 ≤ q0 ∧ q0 ≤ 4000000 := by omega
  go_enter Tryz.func41, Tryz.ntmps41
  go_upto_region 10 with (first
    | (go_at_call 31; refine (c47 _).mono ?_; rintro r w1 ⟨rfl, hb1⟩; obtain ⟨hc1, hf1⟩ := bcell hb1; have hz1_0 : w.heap.size < w1.heap.size := lt_below hb1 ltg; have hl1_0 := Nat.le_of_lt hz1_0; have hA1 := bnext (w0 := w) bgo hb1; have hs1 := hA1.size; clear hb1)
    | (go_at_call 40; refine (c67b _ _ _ _ (by omega) (nA2.next hb3') (nB2.next hb3')).mono ?_; rintro r w4 ⟨a4, b4, rfl, nA4, nB4, hb4⟩; obtain ⟨hc4, hf4⟩ := bcell hb4; have hz4_0 : w.heap.size < w4.heap.size := lt_below hb4 ltg; have hl4_0 := Nat.le_of_lt hz4_0; have hz4_1 : w1.heap.size < w4.heap.size := lt_below hb4 ltg; have hl4_1 := Nat.le_of_lt hz4_1; have hA4 := bnext (w0 := w) bgo hb4; have hs4 := hA4.size; clear hb4)
    | (go_at_call 40; refine (c67 _ bgo).mono ?_; rintro r w2 ⟨a2, b2, rfl, nA2, nB2, hb2⟩; obtain ⟨hc2, hf2⟩ := bcell hb2; have hz2_0 : w.heap.size < w2.heap.size := lt_below hb2 ltg; have hl2_0 := Nat.le_of_lt hz2_0; have hz2_1 : w1.heap.size < w2.heap.size := lt_below hb2 ltg; have hl2_1 := Nat.le_of_lt hz2_1; have hA2 := bnext (w0 := w) bgo hb2; have hs2 := hA2.size; clear hb2)
    | (go_at_call 72; refine (c68 _ _ _ nA2 nB2).mono ?_; rintro r w3 ⟨rfl, hb3⟩; have hb3' := hb3; obtain ⟨hc3, hf3⟩ := bcell hb3; have hz3_0 : w.heap.size < w3.heap.size := lt_below hb3 ltg; have hl3_0 := Nat.le_of_lt hz3_0; have hz3_1 : w1.heap.size < w3.heap.size := lt_below hb3 ltg; have hl3_1 := Nat.le_of_lt hz3_1; have hA3 := bnext (w0 := w) bgo hb3; have hs3 := hA3.size; clear hb3)
    | (go_at_call 73; refine (c69 _ _ _ nA4 nB4).mono ?_; rintro r w5 ⟨vc, rfl, hvc, hb5⟩; obtain ⟨hc5, hf5⟩ := bcell hb5; have hz5_0 : w.heap.size < w5.heap.size := lt_below hb5 ltg; have hl5_0 := Nat.le_of_lt hz5_0; have hz5_1 : w1.heap.size < w5.heap.size := lt_below hb5 ltg; have hl5_1 := Nat.le_of_lt hz5_1; have hA5 := bnext (w0 := w) bgo hb5; have hs5 := hA5.size; clear hb5))
  go_cut [84] from 28 (fun t wc => t = .bool (decide ((f : Int) + 1 < (bl C : Int))) ∧ NV 41002 C vc wc ∧ Ib wc w1.heap.size n nm wd f e l m ∧ (∀ i, i < 4 → wc.cell? ⟨w.heap.size, i, none⟩ = some (.int .u64 0)) ∧ (∀ i, wc.frozen? ⟨w.heap.size, i, none⟩ = false) ∧ Below w.heap.size w wc ∧ w1.heap.size < wc.heap.size)
  case first =>
    go_region_with (go_at_call 61; refine (c70 _ _ (hvc.next bgo)).mono ?_; rintro r w6 ⟨rfl, rfl⟩)
    all_goals (
      go_wp2_with fail
      go_meet
      exact ⟨rfl, hvc.next bgo, ⟨by go_simp, by go_simp, by go_simp, by go_simp, by go_simp, by go_simp, by go_simp, by go_simp, by go_simp, by go_simp⟩, zeros4 (by go_simp) (by go_simp) (by go_simp) (by go_simp), fun i => by go_simp, bgo, by first | assumption | (simp; done) | (simp; omega) | omega⟩)
  case rest =>
    obtain ⟨ht, hvc', fI, fz, ffr, hbw, hsz⟩ := hcut
    obtain ⟨y0, y1, y2, y3, y4, y5, y6, y7, y8, y9⟩ := fI
    have hl0 : w.heap.size < wc.heap.size := by omega
    have hle0 := Nat.le_of_lt hl0
    have hle1 := Nat.le_of_lt hsz
    have z0 := fz 0 (by decide)
    have z1 := fz 1 (by decide)
    have z2 := fz 2 (by decide)
    have z3 := fz 3 (by decide)
    go_upto_if 84 with fail
    go_cut [19, 22] from 28 (fun t19 t22 wc => t19 = .int .i64 q' ∧ NV 41002 C' t22 wc ∧ Ib wc w1.heap.size n nm wd f e l m ∧ (∀ i, i < 4 → wc.cell? ⟨w.heap.size, i, none⟩ = some (.int .u64 0)) ∧ (∀ i, wc.frozen? ⟨w.heap.size, i, none⟩ = false) ∧ Below w.heap.size w wc ∧ w1.heap.size < wc.heap.size)
    case first =>
      clear ho hn c72 c73 c66i c66f
      by_cases hu : (f : Int) + 1 < (bl C : Int)
      · obtain ⟨rfl, rfl⟩ := hup (by omega)
        rw [decide_eq_true hu] at ht
        subst ht
        clear hup hno
        go_wp2_with (go_at_call 62; refine (c71 _ _ hvc').mono ?_; rintro r w7 ⟨v7, b7, rfl, h7, hb7⟩; obtain ⟨hc7, hf7⟩ := bcell hb7; have hz7_0 : w.heap.size < w7.heap.size := lt_below hb7 ltg; have hl7_0 := Nat.le_of_lt hz7_0; have hz7_1 : w1.heap.size < w7.heap.size := lt_below hb7 ltg; have hl7_1 := Nat.le_of_lt hz7_1; have hA7 := bnext (w0 := w) bgo hb7; have hs7 := hA7.size; clear hb7)
        go_meet
        exact ⟨by first | rfl | (congr 1; omega), h7, ⟨by go_simp, by go_simp, by go_simp, by go_simp, by go_simp, by go_simp, by go_simp, by go_simp, by go_simp, by go_simp⟩, zeros4 (by go_simp) (by go_simp) (by go_simp) (by go_simp), fun i => by go_simp, bgo, by first | assumption | (simp; done) | (simp; omega) | omega⟩
      · obtain ⟨rfl, rfl⟩ := hno (by omega)
        rw [decide_eq_false hu] at ht
        subst ht
        clear hup hno
        go_wp2
        go_meet
        exact ⟨by first | rfl | (congr 1; omega), hvc', ⟨by go_simp, by go_simp, by go_simp, by go_simp, by go_simp, by go_simp, by go_simp, by go_simp, by go_simp, by go_simp⟩, zeros4 (by go_simp) (by go_simp) (by go_simp) (by go_simp), fun i => by go_simp, bgo, by first | assumption | (simp; done) | (simp; omega) | omega⟩
    case rest =>
      clear fz ffr hbw hsz y0 y1 y2 y3 y4 y5 y6 y7 y8 y9 hl0 hle0 hle1 z0 z1 z2 z3 ht hvc' hup hno
      obtain ⟨rfl, hv', fI, fz, ffr, hbw, hsz⟩ := hcut
      obtain ⟨y0, y1, y2, y3, y4, y5, y6, y7, y8, y9⟩ := fI
      have hl0 : w.heap.size < wc.heap.size := by omega
      have hle0 := Nat.le_of_lt hl0
      have hle1 := Nat.le_of_lt hsz
      have z0 := fz 0 (by decide)
      have z1 := fz 1 (by decide)
      have z2 := fz 2 (by decide)
      have z3 := fz 3 (by decide)
      by_cases hov : m < q'
      · obtain ⟨hR, rfl⟩ := ho (by omega)
        clear ho hn c66f
        cases inf with
        | true =>
          have hR' : R = RI := hR
          subst hR'
          clear hR
          go_wp2_with (first
            | (go_at_call 74; refine (c72 _).mono ?_; rintro r w8 ⟨rfl, hb8⟩; obtain ⟨hc8, hf8⟩ := bcell hb8; have hz8_0 : w.heap.size < w8.heap.size := lt_below hb8 ltg; have hl8_0 := Nat.le_of_lt hz8_0; have hz8_1 : w1.heap.size < w8.heap.size := lt_below hb8 ltg; have hl8_1 := Nat.le_of_lt hz8_1; have hA8 := bnext (w0 := w) bgo hb8; have hs8 := hA8.size; clear hb8)
            | (go_at_call 75; refine (c73 _).mono ?_; rintro r w9 ⟨rfl, rfl⟩)
            | (go_at_call 37; refine (c66i _).mono ?_; rintro r w10 ⟨rfl, hb10⟩; obtain ⟨hc10, hf10⟩ := bcell hb10; have hz10_0 : w.heap.size < w10.heap.size := lt_below hb10 ltg; have hl10_0 := Nat.le_of_lt hz10_0; have hz10_1 : w1.heap.size < w10.heap.size := lt_below hb10 ltg; have hl10_1 := Nat.le_of_lt hz10_1; have hz10_2 : w8.heap.size < w10.heap.size := lt_below hb10 ltg; have hl10_2 := Nat.le_of_lt hz10_2; have hA10 := bnext (w0 := w) bgo hb10; have hs10 := hA10.size; clear hb10))
          exact bodyPost_ret (v := .tuple #[A4 R, .int .i64 10]) (by simp only [results, Tryz.results41]; go_simp) rfl ⟨rfl, bgo⟩
        | false =>
          have hR' : R = RL := hR
          subst hR'
          clear hR
          go_wp2_with (first
            | (go_at_call 74; refine (c72 _).mono ?_; rintro r w8 ⟨rfl, hb8⟩; obtain ⟨hc8, hf8⟩ := bcell hb8; have hz8_0 : w.heap.size < w8.heap.size := lt_below hb8 ltg; have hl8_0 := Nat.le_of_lt hz8_0; have hz8_1 : w1.heap.size < w8.heap.size := lt_below hb8 ltg; have hl8_1 := Nat.le_of_lt hz8_1; have hA8 := bnext (w0 := w) bgo hb8; have hs8 := hA8.size; clear hb8)
            | (go_at_call 75; refine (c73 _).mono ?_; rintro r w9 ⟨rfl, rfl⟩))
          exact bodyPost_ret (v := .tuple #[A4 R, .int .i64 10]) (by simp only [results, Tryz.results41]; go_simp) rfl ⟨rfl, bgo⟩
      · obtain ⟨rfl, hfl⟩ := hn (by omega)
        have c66 := c66f (by omega)
        clear ho hn c66f c66i
        cases ex with
        | true =>
          have hfl' : fl = 0 := hfl
          subst hfl'
          clear hfl
          go_wp2_with (first
            | (go_at_call 34; refine (bits_nv hv').mono ?_; rintro r w8 ⟨rfl, hb8⟩; obtain ⟨hc8, hf8⟩ := bcell hb8; have hz8_0 : w.heap.size < w8.heap.size := lt_below hb8 ltg; have hl8_0 := Nat.le_of_lt hz8_0; have hz8_1 : w1.heap.size < w8.heap.size := lt_below hb8 ltg; have hl8_1 := Nat.le_of_lt hz8_1; have hA8 := bnext (w0 := w) bgo hb8; have hs8 := hA8.size; clear hb8)
            | (go_at_call 37; refine (c66 _).mono ?_; rintro r w9 ⟨rfl, hb9⟩; obtain ⟨hc9, hf9⟩ := bcell hb9; have hz9_0 : w.heap.size < w9.heap.size := lt_below hb9 ltg; have hl9_0 := Nat.le_of_lt hz9_0; have hz9_1 : w1.heap.size < w9.heap.size := lt_below hb9 ltg; have hl9_1 := Nat.le_of_lt hz9_1; have hA9 := bnext (w0 := w) bgo hb9; have hs9 := hA9.size; clear hb9))
          exact bodyPost_ret (v := .tuple #[A4 R, .int .i64 0]) (by simp only [results, Tryz.results41]; go_simp) rfl ⟨rfl, bgo⟩
        | false =>
          by_cases hsm' : low < l + ((f : Int) + 1) - 1
          · have hfl' : fl = 12 := by rw [hfl, if_neg (by decide), if_pos hsm']
            subst hfl'
            clear hfl
            go_wp2_with (first
              | (go_at_call 34; refine (bits_nv hv').mono ?_; rintro r w8 ⟨rfl, hb8⟩; obtain ⟨hc8, hf8⟩ := bcell hb8; have hz8_0 : w.heap.size < w8.heap.size := lt_below hb8 ltg; have hl8_0 := Nat.le_of_lt hz8_0; have hz8_1 : w1.heap.size < w8.heap.size := lt_below hb8 ltg; have hl8_1 := Nat.le_of_lt hz8_1; have hA8 := bnext (w0 := w) bgo hb8; have hs8 := hA8.size; clear hb8)
              | (go_at_call 37; refine (c66 _).mono ?_; rintro r w9 ⟨rfl, hb9⟩; obtain ⟨hc9, hf9⟩ := bcell hb9; have hz9_0 : w.heap.size < w9.heap.size := lt_below hb9 ltg; have hl9_0 := Nat.le_of_lt hz9_0; have hz9_1 : w1.heap.size < w9.heap.size := lt_below hb9 ltg; have hl9_1 := Nat.le_of_lt hz9_1; have hA9 := bnext (w0 := w) bgo hb9; have hs9 := hA9.size; clear hb9))
            exact bodyPost_ret (v := .tuple #[A4 R, .int .i64 12]) (by simp only [results, Tryz.results41]; go_simp) rfl ⟨rfl, bgo⟩
          · have hfl' : fl = 8 := by rw [hfl, if_neg (by decide), if_neg hsm']
            subst hfl'
            clear hfl
            go_wp2_with (first
              | (go_at_call 34; refine (bits_nv hv').mono ?_; rintro r w8 ⟨rfl, hb8⟩; obtain ⟨hc8, hf8⟩ := bcell hb8; have hz8_0 : w.heap.size < w8.heap.size := lt_below hb8 ltg; have hl8_0 := Nat.le_of_lt hz8_0; have hz8_1 : w1.heap.size < w8.heap.size := lt_below hb8 ltg; have hl8_1 := Nat.le_of_lt hz8_1; have hA8 := bnext (w0 := w) bgo hb8; have hs8 := hA8.size; clear hb8)
              | (go_at_call 37; refine (c66 _).mono ?_; rintro r w9 ⟨rfl, hb9⟩; obtain ⟨hc9, hf9⟩ := bcell hb9; have hz9_0 : w.heap.size < w9.heap.size := lt_below hb9 ltg; have hl9_0 := Nat.le_of_lt hz9_0; have hz9_1 : w1.heap.size < w9.heap.size := lt_below hb9 ltg; have hl9_1 := Nat.le_of_lt hz9_1; have hA9 := bnext (w0 := w) bgo hb9; have hs9 := hA9.size; clear hb9))
            exact bodyPost_ret (v := .tuple #[A4 R, .int .i64 8]) (by simp only [results, Tryz.results41]; go_simp) rfl ⟨rfl, bgo⟩
end
end Go.Proofs.YtkefmapcaggefaaGreatDoor

namespace Go.Proofs.YtkefmapcaggefaaGreatDoor
open Go.RowKit
attribute [local irreducible] W4 NT NV

set_option maxHeartbeats 20000000 in
theorem rlargest_ok (n : Int) (nm : ByteArray) (wd : Int) (f e P K R : Nat) (l m Er : Int) (s : Bool) (w : World) (hP : 1 ≤ P)
    (c35 : ∀ w, Calls Tryz.prog 14 #[.int .i64 n] w fun x w' => x = .returned (.bool true) ∧ w = w')
    (c25 : ∀ w, Calls Tryz.prog 31 #[.int .i64 n] w fun x w' => x = .returned (.tuple #[IV n nm wd f e l m, .int .i64 0]) ∧ Below w.heap.size w w')
    (c30 : ∀ w, Calls Tryz.prog 36 #[.int .u64 2, .int .i64 ((f : Int) + 1)] w fun x w' => ∃ v, x = .returned v ∧ NV K P v w' ∧ Below w.heap.size w w')
    (c41 : ∀ W v v', NV K P v W → NV 1 1 v' W → Calls Tryz.prog 63 #[v, v'] W fun e w' => ∃ r, e = .returned r ∧ NV (K + 1) (P - 1) r w' ∧ Below W.heap.size W w')
    (c13 : ∀ w, Calls Tryz.prog 37 #[.int .i64 n, DV 1 s false m (P - 1)] w fun r w' => r = .returned (.tuple #[A4 R, .int .i64 Er]) ∧ Below w.heap.size w w')
    : Calls Tryz.prog 74 #[.int .i64 n, .bool s] w fun x w' => x = .returned (.tuple #[A4 R, .int .i64 Er]) ∧ Below w.heap.size w w' := by
  have hsm := cell_set_map
  have hds : ∀ W : World, W.drew.heap.size = W.heap.size := fun W => by simp
  go_enter Tryz.func74, Tryz.ntmps74
  go_wp2_with (first
    | (go_at_call 14; refine (c35 _).mono ?_; rintro r w0 ⟨rfl, rfl⟩)
    | (go_at_call 31; refine (c25 _).mono ?_; rintro x w1 ⟨rfl, hb1⟩; obtain ⟨hc1, hf1⟩ := bcell hb1; have hz1_0 : w.heap.size < w1.heap.size := lt_below hb1 ltg; have hl1_0 := Nat.le_of_lt hz1_0; have hA1 := bnext (w0 := w) bgo hb1; have hs1 := hA1.size; clear hb1))
  have hm0 : w.heap.size < w1.heap.size + 1 + 1 := by omega
  have hm2 : w.heap.size < w1.heap.size + 2 := by omega
  go_region_with (first
    | (go_at_call 36; refine (c30 _).mono ?_; rintro r w3 ⟨v3, rfl, h3, hb3⟩; (try have hone : NV 1 1 (.slice (some ⟨w1.heap.size + 1, 0, none⟩) 1 1) w3 := (nv_one_drew (by simp) rfl (by decide)).next hb3); obtain ⟨hc3, hf3⟩ := bcell hb3; have hz3_0 : w.heap.size < w3.heap.size := lt_below hb3 ltg; have hl3_0 := Nat.le_of_lt hz3_0; have hz3_1 : w1.heap.size < w3.heap.size := lt_below hb3 ltg; have hl3_1 := Nat.le_of_lt hz3_1; have hA3 := bnext (w0 := w) bgo hb3; have hs3 := hA3.size; clear hb3)
    | (go_at_call 63; refine (c41 _ _ _ (by first | exact h3 | exact h3.next bgo) (by first | exact hone | exact nv_one (by simp) rfl (by decide))).mono ?_; rintro r w4 ⟨v4, rfl, h4, hb4⟩; obtain ⟨hc4, hf4⟩ := bcell hb4; have hz4_0 : w.heap.size < w4.heap.size := lt_below hb4 ltg; have hl4_0 := Nat.le_of_lt hz4_0; have hz4_1 : w1.heap.size < w4.heap.size := lt_below hb4 ltg; have hl4_1 := Nat.le_of_lt hz4_1; have hA4 := bnext (w0 := w) bgo hb4; have hs4 := hA4.size; clear hb4)
    | (go_at_call 34; refine (bits_nv h4).mono ?_; rintro r w5 ⟨rfl, hb5⟩; obtain ⟨hc5, hf5⟩ := bcell hb5; have hz5_0 : w.heap.size < w5.heap.size := lt_below hb5 ltg; have hl5_0 := Nat.le_of_lt hz5_0; have hz5_1 : w1.heap.size < w5.heap.size := lt_below hb5 ltg; have hl5_1 := Nat.le_of_lt hz5_1; have hA5 := bnext (w0 := w) bgo hb5; have hs5 := hA5.size; clear hb5)
    | (go_at_call 37; refine (c13 _).mono ?_; rintro r w6 ⟨rfl, hb6⟩; obtain ⟨hc6, hf6⟩ := bcell hb6; have hz6_0 : w.heap.size < w6.heap.size := lt_below hb6 ltg; have hl6_0 := Nat.le_of_lt hz6_0; have hz6_1 : w1.heap.size < w6.heap.size := lt_below hb6 ltg; have hl6_1 := Nat.le_of_lt hz6_1; have hA6 := bnext (w0 := w) bgo hb6; have hs6 := hA6.size; clear hb6))
  all_goals (
    go_wp2_with fail
    exact bodyPost_ret (v := .tuple #[A4 R, .int .i64 Er]) (by simp only [results, Tryz.results74]; go_simp) rfl ⟨rfl, bgo⟩)
end Go.Proofs.YtkefmapcaggefaaGreatDoor

namespace Go.Proofs.YtkefmapcaggefaaGreatDoor
open Go.RowKit
theorem rless_wide {K K' A B : Nat} {v v' : Value} {w : World} (hK : K < 1000000) (hK' : K' < 1000000) (h : NV K A v w) (h' : NV K' B v' w) (hv : B ≤ A) :
    Calls Tryz.prog 63 #[v, v'] w fun e w' => ∃ r, e = .returned r ∧ NT (K + K') (A - B) r w' ∧ Below w.heap.size w w' := by
  obtain ⟨g, k, c, z, rfl, hk, hN, hz⟩ := h
  obtain ⟨g2, k2, c2, z2, rfl, hk2, hN2, hz2⟩ := h'
  refine (rless_tr _ _ k c k2 c2 z z2 w (by omega) (by omega) hN hN2).mono fun e w' ⟨g3, k3, cap3, e1, hk3, hN3, ht, hB⟩ => ⟨_, e1, ⟨g3, k3, cap3, _, rfl, by omega, hN3, ?_, ht⟩, hB⟩
  have ex := val_more hN.2.2.2.1 (max k k2) (by omega)
  have ey := val_more hN2.2.2.2.1 (max k k2) (by omega)
  have e := dif_val hN.2.2.1 hN2.2.2.1 (max k k2)
  rw [borW_end hN.2.2.1 hN2.2.2.1 (by omega), ex, ey] at e
  rw [← val_more hN3.2.2.2.1 _ hk3, val_congr (y := difW z z2) (max k k2) fun i hi => by unfold difZ; rw [if_pos hi]]
  omega
attribute [local irreducible] W4 NT NV

set_option maxHeartbeats 1000000 in
theorem rlargest_bad (n : Int) (s : Bool) (w : World) (h : ¬ binN n) :
    Calls Tryz.prog 74 #[.int .i64 n, .bool s] w fun x w' => x = .returned (.tuple #[Z4, .int .i64 1]) ∧ Below w.heap.size w w' := by
  have c35 := fun w => rbinary_any n w
  rw [decide_eq_false h] at c35
  have hsm := cell_set_map
  clear h
  go_enter Tryz.func74, Tryz.ntmps74
  go_wp2_with (go_at_call 14; refine (c35 _).mono ?_; rintro r w0 ⟨rfl, rfl⟩)
  exact bodyPost_ret (v := .tuple #[Z4, .int .i64 1]) (by simp only [results, Tryz.results74]; go_simp) rfl ⟨rfl, bgo⟩
theorem rlargest_any (n : Int) (s : Bool) (w : World) :
    Calls Tryz.prog 74 #[.int .i64 n, .bool s] w fun x w' => x = .returned (.tuple #[A4 (lgV n s), .int .i64 (lgE n)]) ∧ Below w.heap.size w w' := by
  by_cases hb : binN n
  · have hF := bin_fm hb
    have c25 := fun w => rof_bin hb w
    have c35 : ∀ w, Calls Tryz.prog 14 #[.int .i64 n] w fun x w' => x = .returned (.bool true) ∧ w = w' := fun w => by
      have := rbinary_any n w
      rw [decide_eq_true hb] at this
      exact this.mono fun _ _ ⟨h1, h2⟩ => ⟨h1, h2.symm⟩
    have hf := hF.f240
    have hp1 : 1 ≤ 2 ^ (fN n + 1) := Nat.one_le_two_pow
    have h256 : 2 ^ (fN n + 1) < 2 ^ 256 := Nat.pow_lt_pow_right (by decide) (by omega)
    have c30 := fun w => rpow_nv (fN n + 1) w (by omega)
    have c13 := fun w => rpack_any n ⟨1, s, false, mostN n, 2 ^ (fN n + 1) - 1⟩ w (by show 2 ^ (fN n + 1) - 1 < _; omega)
    have hpf : 2 ^ (fN n + 1) = 2 ^ fN n + 2 ^ fN n := by rw [Nat.pow_succ]; omega
    have hpp : 1 ≤ 2 ^ fN n := Nat.one_le_two_pow
    have hpc : ((2 : Int) ^ eN n) = ((2 ^ eN n : Nat) : Int) := by simp
    have hp := pow_e hF.e2 hF.e15
    have hm := hF.m
    rw [hpc] at hp hm
    have hi : isD (fN n) (leastN n) (mostN n) ⟨1, s, false, mostN n, 2 ^ (fN n + 1) - 1⟩ := Or.inl ⟨rfl, rfl, by show 2 ^ (fN n + 1) - 1 < _; omega, by show leastN n ≤ mostN n; omega, Int.le_refl _, Or.inl (by show 2 ^ fN n ≤ 2 ^ (fN n + 1) - 1; omega)⟩
    have e1 : pkE n ⟨1, s, false, mostN n, 2 ^ (fN n + 1) - 1⟩ = lgE n := by unfold pkE lgE; rw [if_pos hb, if_pos hi, if_pos hb]
    have e2 : pkV n ⟨1, s, false, mostN n, 2 ^ (fN n + 1) - 1⟩ = lgV n s := by
      unfold pkV lgV pk
      rw [if_pos ⟨hb, hi⟩, if_pos hb]
      dsimp only
      rw [if_pos rfl, show (mostN n - leastN n).toNat = 2 ^ eN n - 3 by omega]
      obtain ⟨q, hq⟩ : ∃ q, 2 ^ eN n = q + 3 := ⟨2 ^ eN n - 3, by omega⟩
      rw [hq, show q + 3 - 3 = q by omega, show q + 3 - 2 = q + 1 by omega, Nat.add_mul]
      omega
    rw [e1, e2] at c13
    refine rlargest_ok n _ _ _ _ _ _ _ _ _ _ s w hp1 c35 c25 c30 (fun W v v' h h' => ?_) c13
    exact (rless_wide (by decide) (by decide) h h' hp1).mono fun _ _ ⟨r, a1, a2, a3⟩ => ⟨r, a1, a2.nv, a3⟩
  · unfold lgV lgE
    rw [if_neg hb, if_neg hb, Z4_eq]
    exact rlargest_bad n s w hb
end Go.Proofs.YtkefmapcaggefaaGreatDoor

namespace Go.Proofs.YtkefmapcaggefaaGreatDoor
open Go.RowKit

theorem DV_zero (c : Int) (s g : Bool) (x : Int) : DV c s g x 0 = .agg #[.int .i64 c, .bool s, .bool g, .int .i64 x, .int .u64 0, .int .u64 0, .int .u64 0, .int .u64 0] := by
  unfold DV; simp only [W4_zero]
theorem sN_bl {N : Nat} (h : N ≠ 0) (x : Int) : bl (sN N x) ≤ bl N + 200000 := by
  unfold sN; rw [bl_shift h]; unfold clZ; omega
theorem sD_bl {N : Nat} (h : N ≠ 0) (x : Int) : bl (sD N x) ≤ bl N + 200000 := by
  unfold sD; rw [bl_shift h]; unfold clZ; omega
set_option maxHeartbeats 2000000 in
/-- the document's Round -/
theorem round_v (n d x : Int) (s : Bool) {N D : Nat} {vn vd : Value} {w : World} (hn : NT 2001 N vn w) (hd : NT 2001 D vd w) (hb : binN n) (hk : knB d) (hD : D ≠ 0) (h1 : bl N ≤ 120000) (h2 : bl D ≤ 120000) :
    Calls Tryz.prog 41 #[.int .i64 n, .int .i64 d, .bool s, vn, vd, .int .i64 x] w fun r w' => r = .returned (.tuple #[A4 (doV n d s N D x), .int .i64 (doF n d s N D x)]) ∧ Below w.heap.size w w' := by
  obtain ⟨f1, f2, f3, f4, f5⟩ := fld_bd hb
  have c47 := fun W => rof_bin hb W
  obtain ⟨gn, kn, cn, rfl, hkn, hz⟩ := hn.zero
  by_cases hN : N = 0
  · have hk0 := hz.2 hN
    subst hk0
    unfold doV doF
    rw [if_pos hN, if_pos hN]
    have c66 := fun W => rpack_any n ⟨1, s, false, leastN n, 0⟩ W (show 0 < 2 ^ 256 by decide)
    rw [show (Dat.v ⟨1, s, false, leastN n, 0⟩) = _ from DV_zero 1 s false (leastN n)] at c66
    exact round_z n d x s gn cn vd w _ _ _ _ _ _ _ _ c47 c66
  · have hk0 : ((kn : Int) == 0) = false := by
      rw [beq_eq_false_iff_ne]
      intro e
      exact hN (hz.1 (by omega))
    have hw := dlow_ways hN hD x
    have hlb := low_bd (sN N x) (sD D x)
    have b1 := sN_bl hN x
    have b2 := sD_bl hD x
    have hld : -3000000 ≤ dLow N D x ∧ dLow N D x ≤ 3000000 := by unfold dLow; omega
    have c67 := fun W (hb' : Below w.heap.size w W) => rscale_nt x (by decide) (hn.next hb') (hd.next hb')
    have c68 := fun W a b (ha : NT (2001 + 3130) (sN N x) a W) (hb' : NT (2001 + 3130) (sD D x) b W) => rexp_nt (by decide) ha hb' (by omega) (by omega)
    have c67b : ∀ W a b k, k = -(dQ n N D x) → NT (2001 + 3130) (sN N x) a W → NT (2001 + 3130) (sD D x) b W → Calls Tryz.prog 40 #[a, b, .int .u64 2, .int .i64 k] W fun r w' => ∃ a' b', r = .returned (.tuple #[a', b']) ∧ NT (2001 + 3130 + 3130) (dA n N D x) a' w' ∧ NT (2001 + 3130 + 3130) (dB n N D x) b' w' ∧ Below W.heap.size W w' := by
      rintro W a b k rfl ha hb'
      exact rscale_nt _ (by decide) ha hb'
    have hB0 : dB n N D x ≠ 0 := sD_ne (sD_ne hD x) _
    have c69 := fun W a b (ha : NT (2001 + 3130 + 3130) (dA n N D x) a W) (hb' : NT (2001 + 3130 + 3130) (dB n N D x) b W) => whole_nt d s hk (by decide) ha hb' hB0
    have c70 := fun W v (hv : NV 41002 (dC n d s N D x) v W) => rlen_nv (by decide) hv
    have c71 := fun W v (hv : NV 41002 (dC n d s N D x) v W) => rright1_nv (by decide) hv
    have c66i := fun W => rpack_any n ⟨2, s, false, 0, 0⟩ W (show 0 < 2 ^ 256 by decide)
    rw [show (Dat.v ⟨2, s, false, 0, 0⟩) = _ from DV_zero 2 s false 0] at c66i
    have hf3 : fN n ≤ 300 := by omega
    have hl3 : -100000 ≤ leastN n ∧ leastN n ≤ 100000 := by omega
    have hm3 : -100000 ≤ mostN n ∧ mostN n ≤ 100000 := by omega
    refine round_w n d x s gn kn cn vd w (nameN n) (widthN n) (fN n) (eN n) (leastN n) (mostN n) (sN N x) (sD D x) (dA n N D x) (dB n N D x) (dC n d s N D x) _ _ (pkV n ⟨2, s, false, 0, 0⟩) (lgV n s) (pkV n ⟨1, s, false, dQ' n d s N D x, dC' n d s N D x⟩) _ _ _ (dLow N D x) (dQ n N D x) (decide (dA n N D x % dB n N D x = 0)) (inB d s) c47 hf3 hl3 hm3 hld rfl hk0 c67 c68 c67b c69 c70 c71 (dC' n d s N D x) (dQ' n d s N D x) (fun h => ⟨if_pos h, if_pos h⟩) (fun h => ⟨if_neg h, if_neg h⟩) _ _ (fun ho => ?_) (fun ho => ?_) (fun W => rlargest_any n s W) (fun W => rfar_kn d s W hk) c66i (fun ho W => rpack_any n ⟨1, s, false, dQ' n d s N D x, dC' n d s N D x⟩ W (do_lt d s x hb hN hD h1 h2 ho))
    · unfold doV doF
      rw [if_neg hN, if_neg hN, if_pos ho, if_pos ho]
      exact ⟨rfl, rfl⟩
    · unfold doV doF
      rw [if_neg hN, if_neg hN, if_neg ho, if_neg ho]
      refine ⟨rfl, ?_⟩
      simp only [decide_eq_true_eq]
attribute [local irreducible] W4 NT NV Nt
end Go.Proofs.YtkefmapcaggefaaGreatDoor

namespace Go.Proofs.YtkefmapcaggefaaGreatDoor
open Go.RowKit

attribute [local irreducible] W4 Nz Nt NT
/-- is the next number below nearer than the next one above -/
def nbB (n x : Int) (k : Nat) : Bool := decide (leastN n < x) && decide (k = 2 ^ fN n)
end Go.Proofs.YtkefmapcaggefaaGreatDoor

namespace Go.Proofs.YtkefmapcaggefaaGreatDoor
open Go.RowKit

/-- all but block g is as it was, but for what is new -/
structure Mut (g : Nat) (w w' : World) : Prop where
  os : w'.os = w.os
  tape : w'.tape = w.tape
  output : w'.output = w.output
  size : w.heap.size ≤ w'.heap.size
  block : ∀ k, k < w.heap.size → k ≠ g → w'.heap[k]? = w.heap[k]?
theorem Mut.refl (g : Nat) (w : World) : Mut g w w := ⟨rfl, rfl, rfl, Nat.le_refl _, fun _ _ _ => rfl⟩
theorem Mut.trans {g : Nat} {a b c : World} (h : Mut g a b) (k : Mut g b c) : Mut g a c :=
  ⟨k.os.trans h.os, k.tape.trans h.tape, k.output.trans h.output, Nat.le_trans h.size k.size, fun i hi hg => (k.block i (Nat.lt_of_lt_of_le hi h.size) hg).trans (h.block i hi hg)⟩
theorem Mut.below {g : Nat} {a b : World} (h : Below a.heap.size a b) : Mut g a b := ⟨h.os, h.tape, h.output, h.size, fun k hk _ => h.block k hk⟩
theorem Mut.set {g : Nat} {a b : World} (h : Mut g a b) (i : Nat) (v : Value) : Mut g a (b.setCell ⟨g, i, none⟩ v) :=
  h.trans ⟨rfl, rfl, rfl, by simp [World.setCell], fun k _ hk => Below.heap_setCell _ _ _ _ hk⟩
theorem Mut.out {g B : Nat} {w0 w w' : World} (h : Mut g w w') (h0 : Below B w0 w) (hB : B ≤ g) (hs : B ≤ w0.heap.size) : Below B w0 w' :=
  h0.trans ⟨h.os, h.tape, h.output, h.size, fun k hk => h.block k (by have := h0.size; omega) (by omega)⟩
attribute [local irreducible] W4 Nz Nt NT
end Go.Proofs.YtkefmapcaggefaaGreatDoor

namespace Go.Proofs.YtkefmapcaggefaaGreatDoor
open Go.RowKit

theorem tn_ex {k : Nat} {x : Int} : ∀ (d : Nat) (g0 : Int), tnP k x g0 → ¬ tnP k x (g0 + d) → ∃ E, g0 ≤ E ∧ E < g0 + d ∧ tnP k x E ∧ ¬ tnP k x (E + 1)
  | 0, g0, h0, h1 => absurd h0 (by simpa using h1)
  | d + 1, g0, h0, h1 => by
    by_cases h : tnP k x (g0 + 1)
    · obtain ⟨E, e1, e2, e3, e4⟩ := tn_ex d (g0 + 1) h (by rw [show g0 + 1 + (d : Int) = g0 + ((d + 1 : Nat) : Int) by omega]; exact h1)
      exact ⟨E, by omega, by omega, e3, e4⟩
    · exact ⟨g0, Int.le_refl _, by omega, h0, h⟩
theorem tn_top {k : Nat} {x : Int} (hk : k < 2 ^ 256) (hx : x ≤ 17000) : ¬ tnP k x 6000 := by
  unfold tnP zE oE
  rw [show ((-6000 : Int)).toNat = 0 by decide, Nat.pow_zero, Nat.mul_one, show ((6000 : Int)).toNat = 6000 by decide]
  have h1 : (2 : Nat) ^ 18000 ≤ 10 ^ 6000 := by decide +kernel
  obtain ⟨m', hm'⟩ : ∃ m' : Nat, m' = 18000 := ⟨_, rfl⟩
  rw [← hm'] at h1
  generalize (10 : Nat) ^ 6000 = T at *
  obtain ⟨m, hm⟩ : ∃ m : Nat, m = 17000 := ⟨_, rfl⟩
  have h2 : k * 2 ^ x.toNat < 2 ^ 256 * 2 ^ m := by
    have a1 : k * 2 ^ x.toNat < 2 ^ 256 * 2 ^ x.toNat := Nat.mul_lt_mul_of_pos_right hk (Nat.two_pow_pos _)
    have a2 : 2 ^ 256 * 2 ^ x.toNat ≤ 2 ^ 256 * 2 ^ m := Nat.mul_le_mul_left _ (Nat.pow_le_pow_right (by decide) (by omega))
    exact Nat.lt_of_lt_of_le a1 a2
  rw [← Nat.pow_add] at h2
  have h3 : (2 : Nat) ^ (256 + m) ≤ 2 ^ m' := Nat.pow_le_pow_right (by decide) (by omega)
  have h4 : 1 * T ≤ 2 ^ (-x).toNat * T := Nat.mul_le_mul_right _ (Nat.two_pow_pos _)
  generalize (2 : Nat) ^ (256 + m) = Y at *
  generalize (2 : Nat) ^ m' = Y' at *
  rw [Nat.mul_assoc 4, Nat.mul_assoc 4]
  generalize 2 ^ (-x).toNat * T = Z1 at *
  generalize k * 2 ^ x.toNat = Z2 at *
  omega
theorem two_bl (m : Nat) : bl (2 ^ m) = m + 1 := bl_eq (by rw [Nat.add_sub_cancel]; exact Nat.le_refl _) (Nat.pow_lt_pow_right (by decide) (by omega))
attribute [local irreducible] W4 Nz Nt NT
end Go.Proofs.YtkefmapcaggefaaGreatDoor

namespace Go.Proofs.YtkefmapcaggefaaGreatDoor
open Go.RowKit

theorem NT.grown {K V Bs : Nat} {v tv : Value} {l : List UInt8} {w w' : World} (h : NT K V v w) (ho : w.ownsRow Bs 5 1 tv l.length (Lib.byteCells l)) (hl : tv = .slice none 0 0 ∨ 0 < l.length) (hg : w.grownBy w' tv.ownBlock) : NT K V v w' := by
  obtain ⟨b, k, cap, z, h1, h2, ⟨n1, n2, n3, n4, n5⟩, h4, h5⟩ := h
  refine ⟨b, k, cap, z, h1, h2, ⟨n1, n2, n3, n4, ?_⟩, h4, h5⟩
  rcases n5 with n5 | ⟨b', off, e, hb, hc⟩
  · exact Or.inl n5
  · cases e
    refine Or.inr ⟨b, 0, rfl, Nat.lt_of_lt_of_le hb hg.size, fun i hi => ?_⟩
    have hne : some b ≠ tv.ownBlock := by
      rcases hl with rfl | hl
      · intro h; cases h
      · obtain ⟨g', cap', rfl, _, _⟩ := ho.form hl
        intro h
        have : b = g' := Option.some.inj h
        subst this
        have h6 := hc 0 (by omega)
        rw [Nat.add_zero, ho.cellAt 0 (by omega)] at h6
        simp [Lib.byteCells, hl] at h6
    exact (World.cell?_of_block (w := w) (a := ⟨b, 0 + i, none⟩) (hg.block b hb hne)).trans (hc i hi)
attribute [local irreducible] W4 Nz Nt NT
end Go.Proofs.YtkefmapcaggefaaGreatDoor

namespace Go.Proofs.YtkefmapcaggefaaGreatDoor
open Go.RowKit

/-- how many quarters below a number are read as it -/
def lwN (n x : Int) (k : Nat) : Nat := if nbB n x k then 1 else 2
def evK (k : Nat) : Bool := decide (k % 2 = 0)
/-- the first digit's place, and how many digits behind it -/
structure Shd (n x : Int) (k : Nat) (E : Int) (K : Nat) : Prop where
  t0 : tnP k x E
  t1 : ¬ tnP k x (E + 1)
  st : stK (evK k) (4 * k * oE x E) (lwN n x k * oE x E) (2 * oE x E) (zE x E) K = true
  mn : ∀ j, j < K → stK (evK k) (4 * k * oE x E) (lwN n x k * oE x E) (2 * oE x E) (zE x E) j = false
theorem gs_in {k : Nat} {x : Int} (hk : k < 2 ^ 256) (hk0 : k ≠ 0) (hx : -16990 ≤ x ∧ x ≤ 16990) : tnP k x (gsP k x) ∧ -6000 ≤ gsP k x ∧ gsP k x < 6000 := by
  have hb : bl k ≤ 256 := bl_le.2 hk
  obtain ⟨b1, b2, b3⟩ := bl_bd hk0
  have e : ((bl k - 1 : Nat) : Int) = (bl k : Int) - 1 := by omega
  have := guess_ok (c := k) (L := bl k - 1) (x := x) b1 (by omega)
  rw [e] at this
  refine ⟨this, ?_⟩
  unfold gsP
  by_cases h0 : 0 ≤ (bl k : Int) - 1 + x
  · rw [Int.tdiv_eq_ediv_of_nonneg (by omega)]; omega
  · rw [show ((bl k : Int) - 1 + x) * 30103 = -(-((bl k : Int) - 1 + x) * 30103) by omega, Int.neg_tdiv, Int.tdiv_eq_ediv_of_nonneg (by omega)]; omega
theorem Shd.ex {n x : Int} {k : Nat} (hk : k < 2 ^ 256) (hk0 : k ≠ 0) (hx : -16990 ≤ x ∧ x ≤ 16990) : ∃ E K, Shd n x k E K := by
  obtain ⟨g1, g2, g3⟩ := gs_in hk hk0 hx
  obtain ⟨E, e1, e2, e3, e4⟩ := tn_ex (6000 - gsP k x).toNat (gsP k x) g1 (by rw [show gsP k x + ((6000 - gsP k x).toNat : Int) = 6000 by omega]; exact tn_top hk (by omega))
  have hl : 0 < lwN n x k * oE x E := Nat.mul_pos (by unfold lwN; split <;> decide) (oE_pos _ _)
  obtain ⟨K, h1, h2⟩ := st_ex (c := evK k) (R := 4 * k * oE x E) (u := 2 * oE x E) (zE_pos x E) hl
  exact ⟨E, K, e3, e4, h1, h2⟩
end Go.Proofs.YtkefmapcaggefaaGreatDoor

namespace Go.Proofs.YtkefmapcaggefaaGreatDoor
open Go.RowKit

theorem NT.tight {K K' V : Nat} {v : Value} {w : World} (h : NT K V v w) (hb : bl V ≤ 64 * K') : NT K' V v w := by
  obtain ⟨g, k, cap, z, h1, h2, h3, h4, h5⟩ := h
  exact ⟨g, k, cap, z, h1, by have := (size_bl (m := K') h3.2.2.1 h4).2 hb; omega, h3, h4, h5⟩
section
variable (x : Int) (vn vd : Value) (A KK : Nat) (w : World) (hx : -12000 ≤ x ∧ x ≤ 12000)
include hx
end
attribute [local irreducible] W4 NT NV
end Go.Proofs.YtkefmapcaggefaaGreatDoor

namespace Go.Proofs.YtkefmapcaggefaaGreatDoor
open Go.RowKit

theorem rscale2 {N D : Nat} {vn vd : Value} {w : World} (x : Int) (hx : -17000 ≤ x ∧ x ≤ 17000) (h : NT 900 N vn w) (h' : NT 900 D vd w) (hN : bl N ≤ 300) (hD : bl D ≤ 300) :
    Calls Tryz.prog 40 #[vn, vd, .int .u64 2, .int .i64 x] w fun e w' => ∃ a b, e = .returned (.tuple #[a, b]) ∧ NT 900 (N * 2 ^ x.toNat) a w' ∧ NT 900 (D * 2 ^ (-x).toNat) b w' ∧ Below w.heap.size w w' := by
  have hc : clZ x = x := by unfold clZ; omega
  have e1 : sN N x = N * 2 ^ x.toNat := by unfold sN; rw [hc]
  have e2 : sD D x = D * 2 ^ (-x).toNat := by unfold sD; rw [hc]
  have a1 := bl_mul N (2 ^ x.toNat)
  have a2 := bl_mul D (2 ^ (-x).toNat)
  have b1 := two_bl x.toNat
  have b2 := two_bl (-x).toNat
  refine (rscale_nt x (by decide) h h').mono fun e w' ⟨a, b, h1, h2, h3, h4⟩ => ⟨a, b, h1, ?_, ?_, h4⟩
  · rw [e1] at h2; exact h2.tight (by omega)
  · rw [e2] at h3; exact h3.tight (by omega)
theorem nt_at0 {W : World} {g k : Nat} (hk : k < 2 ^ 256) (hg : g < W.heap.size) (h0 : W.cell? ⟨g, 0, none⟩ = some (.int .u64 (W4 k 0))) (h1 : W.cell? ⟨g, 1, none⟩ = some (.int .u64 (W4 k 1))) (h2 : W.cell? ⟨g, 2, none⟩ = some (.int .u64 (W4 k 2))) (h3 : W.cell? ⟨g, 3, none⟩ = some (.int .u64 (W4 k 3))) :
    Nt 4 k (.slice (some ⟨g, 0, none⟩) 4 4) W := by
  unfold Nt
  refine ⟨some ⟨g, 0, none⟩, 4, 4, fun i => if i < 4 then W4 k i else 0, rfl, Nat.le_refl _, ⟨Nat.le_refl _, by unfold maxLen; omega, fun i => ?_, fun i hi => if_neg (by omega), Or.inr ⟨g, 0, rfl, hg, fun i hi => ?_⟩⟩, ?_⟩
  · dsimp only
    split
    · exact W4_words k i
    · exact ⟨Int.le_refl _, by decide⟩
  · have : i = 0 ∨ i = 1 ∨ i = 2 ∨ i = 3 := by omega
    rcases this with rfl | rfl | rfl | rfl
    · exact h0
    · exact h1
    · exact h2
    · exact h3
  · have e := W4_val4 hk
    rw [← e]
    simp [val]
attribute [local irreducible] W4 Nz Nt NT NV
set_option maxHeartbeats 1000000 in
theorem rnat_v (k : Nat) (w : World) (hk : k < 2 ^ 256) :
    Calls Tryz.prog 39 #[A4 k] w fun r w' => ∃ v, r = .returned v ∧ NT 4 k v w' ∧ Below w.heap.size w w' := by
  have hn0 : Nt 4 k (.slice (some ⟨w.heap.size, 0, none⟩) 4 4) (w.alloc (.cells #[.int .u64 (W4 k 0), .int .u64 (W4 k 1), .int .u64 (W4 k 2), .int .u64 (W4 k 3)] 24)) := nt_at0 hk (by simp) (by go_simp) (by go_simp) (by go_simp) (by go_simp)
  have c49 := rtrim_nt (by decide) hn0
  have hb0 := below1 w (.cells #[.int .u64 (W4 k 0), .int .u64 (W4 k 1), .int .u64 (W4 k 2), .int .u64 (W4 k 3)] 24)
  clear hn0
  unfold A4
  go_enter Tryz.func39, Tryz.ntmps39
  go_wp2_with (go_at_call 66; refine c49.mono ?_; rintro r w1 ⟨v, rfl, hv, hb1⟩)
  go_ret
  exact ⟨v, rfl, hv, bnx hb0 hb1⟩
section
variable {a : Act} {w : World} {K : Act → World → Prop} {Q : Exit → Act → World → Prop} {d p q : Nat} {ty : TypeId} {pos : String} {after : Array Edge} {gd : Option (Nat × Bool)}
end
section
variable {a : Act} {w : World} {K : Act → World → Prop} {Q : Exit → Act → World → Prop} {d p q p2 p3 p4 : Nat} {ty : TypeId} {pos : String} {after : Array Edge} {gd : Option (Nat × Bool)}
end
end Go.Proofs.YtkefmapcaggefaaGreatDoor
