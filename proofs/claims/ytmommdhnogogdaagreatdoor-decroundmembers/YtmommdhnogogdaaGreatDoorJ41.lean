/-
  Texts that the proof leans on, joined: Vg.
-/
import Derived.Test.YtmommdhnogogdaaGreatDoorJ39
import Derived.Test.YtmommdhnogogdaaGreatDoorJ40
import Derived.Test.YtmommdhnogogdaaGreatDoorJ1
set_option linter.unusedVariables false
set_option linter.unusedSectionVars false
set_option linter.unusedSimpArgs false
set_option maxRecDepth 20000
namespace Go.Proofs.YtmommdhnogogdaaGreatDoor
open Go.RowKit
/-- Pack's answer: a pattern, an error -/
def vPV (n : Int) (d : Dat) : Nat := if decN n ∧ vI (fD n) d then vP (fD n) d else 0
def vPE (n : Int) (d : Dat) : Int := if decN n then (if vI (fD n) d then 0 else 3) else 1
theorem or_lay (y b r : Nat) (hb : b < 2 ^ r) (h : y * 2 ^ r + b < 18446744073709551616) : bits .or .u64 ((y * 2 ^ r : Nat) : Int) (b : Int) = ((y * 2 ^ r + b : Nat) : Int) := by
  have e := orW_eq ((y * 2 ^ r : Nat) : Int) (b : Int) (by omega) (by omega)
  unfold orW at e
  rw [e, Int.toNat_natCast, Int.toNat_natCast, Nat.mul_comm y, ← Nat.two_pow_add_eq_or_of_lt hb]
theorem and_lay (y r : Nat) (hr : r < 64) (hy : y < 18446744073709551616) : bits .and .u64 (y : Int) ((2 ^ r : Nat) - 1 : Int) = ((y % 2 ^ r : Nat) : Int) := by
  have e := and_mask (y := (y : Int)) (r := r) (by omega) hr
  rw [← powCast] at e
  rw [e, Int.natCast_emod]
theorem lay_z (A at_ K : Nat) (v : Value) (w : World) (hK : K < 900) (ha : at_ ≤ 600) (h : NV K A v w) :
    Calls Tryz.prog 58 #[Z4, v, .int .i64 at_] w fun e w' => e = .returned (A4 (A * 2 ^ at_)) ∧ Below w.heap.size w w' := by
  have := lay_any 0 A at_ K v w (by decide) hK ha h
  rw [Z4_eq, Nat.zero_add] at this
  exact this
section
variable (n : Int) (C : Int) (s g : Bool) (x : Int) (k : Nat) (w : World)
set_option maxHeartbeats 400000 in
theorem vpk_n (c35 : ∀ W, Calls Tryz.prog 48 #[.int .i64 n] W fun r w' => r = .returned (.bool false) ∧ W = w') :
    Calls Tryz.prog 22 #[.int .i64 n, DV C s g x k] w fun r w' => r = .returned (.tuple #[Z4, .int .i64 1]) ∧ Below w.heap.size w w' := by
  have hsm := cell_set_map
  go_enter Tryz.func22, Tryz.ntmps22
  go_wp2_with (go_at_call 48; refine (c35 _).mono ?_; rintro r w0 ⟨rfl, rfl⟩)
  exact bodyPost_ret (v := .tuple #[Z4, .int .i64 1]) (by simp only [results, Tryz.results22]; go_simp) rfl ⟨rfl, bgo⟩
set_option maxHeartbeats 1000000 in
theorem vpk_i (nm : ByteArray) (wd pr ex le mo pa : Int) (dn : Bool)
    (c35 : ∀ W, Calls Tryz.prog 48 #[.int .i64 n] W fun r w' => r = .returned (.bool true) ∧ W = w')
    (cO : ∀ W, Calls Tryz.prog 10 #[.int .i64 n] W fun r w' => r = .returned (.tuple #[IDec n nm wd pr ex le mo pa dn, .int .i64 0]) ∧ Below W.heap.size W w')
    (cI : ∀ W, Calls Tryz.prog 57 #[IDec n nm wd pr ex le mo pa dn, DV C s g x k] W fun r w' => r = .returned (.bool false) ∧ Below W.heap.size W w') :
    Calls Tryz.prog 22 #[.int .i64 n, DV C s g x k] w fun r w' => r = .returned (.tuple #[Z4, .int .i64 3]) ∧ Below w.heap.size w w' := by
  have hsm := cell_set_map
  go_enter Tryz.func22, Tryz.ntmps22
  go_wp2_with (first
    | (go_at_call 48; refine (c35 _).mono ?_; rintro r w0 ⟨rfl, rfl⟩)
    | (go_at_call 10; refine (cO _).mono ?_; rintro x w1 ⟨rfl, hb1⟩; obtain ⟨hc1, hf1⟩ := bcell hb1; have hz1_0 : w.heap.size < w1.heap.size := lt_below hb1 ltg; have hl1_0 := Nat.le_of_lt hz1_0; have hz1_1 : w.heap.size + 1 < w1.heap.size := lt_below hb1 ltg; have hl1_1 := Nat.le_of_lt hz1_1; have hA1 := bnext (w0 := w) bgo hb1; have hs1 := hA1.size; clear hb1)
    | (go_at_call 57; refine (cI _).mono ?_; rintro x w2 ⟨rfl, hb2⟩; obtain ⟨hc2, hf2⟩ := bcell hb2; have hz2_0 : w.heap.size < w2.heap.size := lt_below hb2 ltg; have hl2_0 := Nat.le_of_lt hz2_0; have hz2_1 : w.heap.size + 1 < w2.heap.size := lt_below hb2 ltg; have hl2_1 := Nat.le_of_lt hz2_1; have hz2_2 : w1.heap.size < w2.heap.size := lt_below hb2 ltg; have hl2_2 := Nat.le_of_lt hz2_2; have hA2 := bnext (w0 := w) bgo hb2; have hs2 := hA2.size; clear hb2))
  exact bodyPost_ret (v := .tuple #[Z4, .int .i64 3]) (by simp only [results, Tryz.results22]; go_simp) rfl ⟨rfl, bgo⟩
end
/-- what every path leans on -/
structure VB (n : Int) (C : Int) (s g : Bool) (x : Int) (k : Nat) : Prop where
  cD : ∀ W, Calls Tryz.prog 48 #[.int .i64 n] W fun r w' => r = .returned (.bool true) ∧ W = w'
  cO : ∀ W, Calls Tryz.prog 10 #[.int .i64 n] W fun r w' => r = .returned (.tuple #[IDec n (nameN n) (((fD n).t + ((fD n).w + 6) : Nat) : Int) (3 * ((fD n).j : Int) + 1) (expN n) (fD n).l ((fD n).l + 3 * 2 ^ (fD n).w - 1) (3 * ((fD n).j : Int)) (fD n).dn, .int .i64 0]) ∧ Below W.heap.size W w'
  cI : ∀ W, Calls Tryz.prog 57 #[IDec n (nameN n) (((fD n).t + ((fD n).w + 6) : Nat) : Int) (3 * ((fD n).j : Int) + 1) (expN n) (fD n).l ((fD n).l + 3 * 2 ^ (fD n).w - 1) (3 * ((fD n).j : Int)) (fD n).dn, DV C s g x k] W fun r w' => r = .returned (.bool true) ∧ Below W.heap.size W w'
  cS : ∀ W, Calls Tryz.prog 51 #[IDec n (nameN n) (((fD n).t + ((fD n).w + 6) : Nat) : Int) (3 * ((fD n).j : Int) + 1) (expN n) (fD n).l ((fD n).l + 3 * 2 ^ (fD n).w - 1) (3 * ((fD n).j : Int)) (fD n).dn] W fun r w' => r = .returned (.tuple #[.int .i64 (((fD n).w : Int) + 5), .int .i64 ((fD n).t : Int), .int .i64 ((fD n).j : Int)]) ∧ Below W.heap.size W w'
  cN : ∀ W, Calls Tryz.prog 13 #[A4 k] W fun r w' => ∃ g n cap, r = .returned (.slice (some ⟨g, 0, none⟩) n cap) ∧ W.heap.size < g ∧ NT 4 k (.slice (some ⟨g, 0, none⟩) n cap) w' ∧ Below W.heap.size W w'
theorem vb_of {n : Int} (h : decN n) {d : Dat} (hk : d.k < 2 ^ 256) (hi : vI (fD n) d) : VB n d.c d.s d.g d.x d.k := by
  refine ⟨fun W => ?_, fun W => rof_dec h W, fun W => ?_, fun W => dec_shape h _ _ _ _ _ _ W, fun W => rnat13 _ W hk⟩
  · have := rdecimal_any n W
    rw [decide_eq_true h] at this
    exact this
  · have := ris14 (fD n) (fD_ok n) n (nameN n) (((fD n).t + ((fD n).w + 6) : Nat) : Int) (expN n) (fD n).dn d W hk
    rw [decide_eq_true hi] at this
    exact this
theorem ok_bounds {f : DF} (h : f.ok) : 6 ≤ f.w ∧ f.w ≤ 12 ∧ 20 ≤ f.t ∧ f.t ≤ 110 ∧ 2 ≤ f.j ∧ f.j ≤ 11 ∧ f.t % 64 ≠ 0 ∧ -6176 ≤ f.l ∧ f.l ≤ -101 ∧ 64 ≤ 2 ^ f.w ∧ 2 ^ f.w ≤ 4096 := by
  rcases h with ⟨h1, h2, h3, h4⟩ | ⟨h1, h2, h3, h4⟩ | ⟨h1, h2, h3, h4⟩ <;> rw [h1, h2, h3, h4] <;> decide
theorem lay_to {B A at_ K R : Nat} {T : Int} {v : Value} {w : World} (hB : B < 2 ^ 256) (hK : K < 900) (ha : at_ ≤ 600) (h : NV K A v w) (hT : (at_ : Int) = T) (hR : B + A * 2 ^ at_ = R) :
    Calls Tryz.prog 58 #[A4 B, v, .int .i64 T] w fun e w' => e = .returned (A4 R) ∧ Below w.heap.size w w' := by
  subst hT hR
  exact lay_any B A at_ K v w hB hK ha h
theorem layz_to {A at_ K R : Nat} {T : Int} {v : Value} {w : World} (hK : K < 900) (ha : at_ ≤ 600) (h : NV K A v w) (hT : (at_ : Int) = T) (hR : A * 2 ^ at_ = R) :
    Calls Tryz.prog 58 #[Z4, v, .int .i64 T] w fun e w' => e = .returned (A4 R) ∧ Below w.heap.size w w' := by
  subst hT hR
  exact lay_z A at_ K v w hK ha h
theorem p_200 {a : Nat} (h : a ≤ 200) : 2 ^ a < 2 ^ 220 := Nat.pow_lt_pow_right (by decide) (by omega)
theorem vpk_inf {n : Int} (h : decN n) {s : Bool} (w : World) (hi : vI (fD n) ⟨2, s, false, 0, 0⟩) :
    Calls Tryz.prog 22 #[.int .i64 n, DV 2 s false 0 0] w fun r w' => r = .returned (.tuple #[A4 (vP (fD n) ⟨2, s, false, 0, 0⟩), .int .i64 0]) ∧ Below w.heap.size w w' := by
  have B := vb_of h (d := ⟨2, s, false, 0, 0⟩) (show (0 : Nat) < 2 ^ 256 by decide) hi
  obtain ⟨w6, w12, t20, t110, j2, j11, t64, l0, l1, H0, H1⟩ := ok_bounds (fD_ok n)
  have e : vP (fD n) ⟨2, s, false, 0, 0⟩ = (if s then 2 ^ ((fD n).t + ((fD n).w + 5)) else 0) + 30 * 2 ^ ((fD n).t + (fD n).w) := by
    unfold vP vPG vPR
    simp only [if_true, Nat.add_zero]
    rw [Nat.mul_assoc, ← Nat.pow_add, Nat.add_comm (fD n).w (fD n).t]
  rw [e]
  have p1 := p_200 (a := (fD n).t + ((fD n).w + 5)) (by omega)
  have p2 : (2 : Nat) ^ 220 < 2 ^ 256 := by decide
  cases s
  · exact vpk2_f n _ _ _ _ _ _ _ _ _ _ 0 0 w B.cD (by omega) (by omega) (by omega) (by omega) (by omega) (by omega) B.cN _ false _ B.cO B.cI B.cS (fun W v hv => layz_to (at_ := (fD n).t + (fD n).w) (by decide) (by omega) hv (by omega) (by simp))
  · exact vpk2_t n _ _ _ _ _ _ _ _ _ _ 0 0 (2 ^ ((fD n).t + ((fD n).w + 5))) w B.cD (by omega) (by omega) (by omega) (by omega) (by omega) (by omega) B.cN _ false _ B.cO B.cI B.cS (fun W v hv => layz_to (at_ := (fD n).t + ((fD n).w + 5)) (by decide) (by omega) hv (by omega) (by omega)) (fun W v hv => lay_to (at_ := (fD n).t + (fD n).w) (by omega) (by decide) (by omega) hv (by omega) (by simp))
theorem vpk_nan {n : Int} (h : decN n) {s g : Bool} {k : Nat} (w : World) (hk : k < 10 ^ (3 * (fD n).j)) :
    Calls Tryz.prog 22 #[.int .i64 n, DV 3 s g 0 k] w fun r w' => r = .returned (.tuple #[A4 (vP (fD n) ⟨3, s, g, 0, k⟩), .int .i64 0]) ∧ Below w.heap.size w w' := by
  have ho := fD_ok n
  obtain ⟨w6, w12, t20, t110, j2, j11, t64, l0, l1, H0, H1⟩ := ok_bounds ho
  have p2 : (2 : Nat) ^ 220 < 2 ^ 256 := by decide
  have hk2 : k < 2 ^ (fD n).t := by
    refine Nat.lt_of_lt_of_le hk ?_
    rcases ho with ⟨h1, h2, h3, h4⟩ | ⟨h1, h2, h3, h4⟩ | ⟨h1, h2, h3, h4⟩ <;> rw [h1, h3] <;> decide
  have pt := p_200 (a := (fD n).t) (by omega)
  have p1 := p_200 (a := (fD n).t + ((fD n).w + 5)) (by omega)
  have x5 : 2 ^ ((fD n).t + ((fD n).w + 5)) = 32 * 2 ^ ((fD n).t + (fD n).w) := by rw [← Nat.add_assoc, Nat.pow_add, Nat.mul_comm]
  have x0 : 2 ^ ((fD n).t + (fD n).w) = 2 * 2 ^ ((fD n).t + (fD n).w - 1) := by rw [← Nat.pow_succ']; congr 1; omega
  have hpl : dlP (fD n).j k < 2 ^ (fD n).t := by rw [ho.pt]; exact dlP_lt _ _
  have hp : dlP (fD n).j k < 2 ^ 256 := by omega
  have B := vb_of h (d := ⟨3, s, g, 0, k⟩) (show k < 2 ^ 256 by omega) (Or.inr (Or.inr ⟨rfl, rfl, hk⟩))
  have cP : ∀ W, Calls Tryz.prog 59 #[A4 k, .int .i64 ((fD n).j : Int)] W fun r w' => r = .returned (.tuple #[A4 (dlP (fD n).j k), .int .i64 0]) ∧ Below W.heap.size W w' := fun W => by
    have := rpck_any k ((fD n).j : Int) W (by omega)
    have c1 : (0 : Int) ≤ ((fD n).j : Int) ∧ ((fD n).j : Int) ≤ 11 := by omega
    rw [ten3] at hk
    unfold dPv dPe at this
    rw [if_pos c1, if_pos c1, Int.toNat_natCast, if_pos hk, if_pos hk] at this
    exact this
  have e : vP (fD n) ⟨3, s, g, 0, k⟩ = (if s then 2 ^ ((fD n).t + ((fD n).w + 5)) else 0) + 31 * 2 ^ ((fD n).t + (fD n).w) + (if g then 2 ^ ((fD n).t + (fD n).w - 1) else 0) + (if (fD n).dn then dlP (fD n).j k else k) := by
    unfold vP vPG vPR
    simp only [show ¬ (3 : Int) = 2 by decide, if_false, if_true]
    rw [Nat.add_mul, Nat.mul_assoc, ← Nat.pow_add, Nat.add_comm (fD n).w (fD n).t]
    have e2 : (if g then 2 ^ ((fD n).w - 1) else 0) * 2 ^ (fD n).t = (if g then 2 ^ ((fD n).t + (fD n).w - 1) else 0) := by
      cases g
      · simp
      · simp only [if_true]
        rw [← Nat.pow_add]; congr 1; omega
    rw [e2]
    simp only [Nat.add_assoc]
  rw [e]
  have cO := B.cO
  have cI := B.cI
  have cS := B.cS
  cases hdn : (fD n).dn <;> rw [hdn] at cO cI cS <;> cases s <;> cases g <;> simp only [Bool.false_eq_true, if_false, if_true, Nat.zero_add, Nat.add_zero]
  · exact vpk3_fff n _ _ _ _ _ _ _ _ _ _ 0 k w B.cD (by omega) (by omega) (by omega) (by omega) (by omega) (by omega) B.cN _ (31 * 2 ^ ((fD n).t + (fD n).w)) cO cI cS (fun W v hv => layz_to (at_ := (fD n).t + (fD n).w) (by decide) (by omega) hv (by omega) rfl) (fun W v hv => lay_to (at_ := 0) (by omega) (by decide) (by omega) hv rfl (by omega))
  · exact vpk3_ftf n _ _ _ _ _ _ _ _ _ _ 0 k w B.cD (by omega) (by omega) (by omega) (by omega) (by omega) (by omega) B.cN _ (31 * 2 ^ ((fD n).t + (fD n).w)) (31 * 2 ^ ((fD n).t + (fD n).w) + 2 ^ ((fD n).t + (fD n).w - 1)) cO cI cS (fun W v hv => layz_to (at_ := (fD n).t + (fD n).w) (by decide) (by omega) hv (by omega) rfl) (fun W v hv => lay_to (at_ := (fD n).t + (fD n).w - 1) (by omega) (by decide) (by omega) hv (by omega) (by omega)) (fun W v hv => lay_to (at_ := 0) (by omega) (by decide) (by omega) hv rfl (by omega))
  · exact vpk3_tff n _ _ _ _ _ _ _ _ _ _ 0 k (2 ^ ((fD n).t + ((fD n).w + 5))) w B.cD (by omega) (by omega) (by omega) (by omega) (by omega) (by omega) B.cN _ (2 ^ ((fD n).t + ((fD n).w + 5)) + 31 * 2 ^ ((fD n).t + (fD n).w)) cO cI cS (fun W v hv => layz_to (at_ := (fD n).t + ((fD n).w + 5)) (by decide) (by omega) hv (by omega) (by omega)) (fun W v hv => lay_to (at_ := (fD n).t + (fD n).w) (by omega) (by decide) (by omega) hv (by omega) rfl) (fun W v hv => lay_to (at_ := 0) (by omega) (by decide) (by omega) hv rfl (by omega))
  · exact vpk3_ttf n _ _ _ _ _ _ _ _ _ _ 0 k (2 ^ ((fD n).t + ((fD n).w + 5))) w B.cD (by omega) (by omega) (by omega) (by omega) (by omega) (by omega) B.cN _ (2 ^ ((fD n).t + ((fD n).w + 5)) + 31 * 2 ^ ((fD n).t + (fD n).w)) (2 ^ ((fD n).t + ((fD n).w + 5)) + 31 * 2 ^ ((fD n).t + (fD n).w) + 2 ^ ((fD n).t + (fD n).w - 1)) cO cI cS (fun W v hv => layz_to (at_ := (fD n).t + ((fD n).w + 5)) (by decide) (by omega) hv (by omega) (by omega)) (fun W v hv => lay_to (at_ := (fD n).t + (fD n).w) (by omega) (by decide) (by omega) hv (by omega) rfl) (fun W v hv => lay_to (at_ := (fD n).t + (fD n).w - 1) (by omega) (by decide) (by omega) hv (by omega) (by omega)) (fun W v hv => lay_to (at_ := 0) (by omega) (by decide) (by omega) hv rfl (by omega))
  · exact vpk3_fft n _ _ _ _ _ _ _ _ _ _ 0 k w B.cD (by omega) (by omega) (by omega) (by omega) (by omega) (by omega) B.cN _ (31 * 2 ^ ((fD n).t + (fD n).w)) (dlP (fD n).j k) cO cI cS (fun W v hv => layz_to (at_ := (fD n).t + (fD n).w) (by decide) (by omega) hv (by omega) rfl) hp cP (fun W v hv => lay_to (at_ := 0) (by omega) (by decide) (by omega) hv rfl (by omega))
  · exact vpk3_ftt n _ _ _ _ _ _ _ _ _ _ 0 k w B.cD (by omega) (by omega) (by omega) (by omega) (by omega) (by omega) B.cN _ (31 * 2 ^ ((fD n).t + (fD n).w)) (31 * 2 ^ ((fD n).t + (fD n).w) + 2 ^ ((fD n).t + (fD n).w - 1)) (dlP (fD n).j k) cO cI cS (fun W v hv => layz_to (at_ := (fD n).t + (fD n).w) (by decide) (by omega) hv (by omega) rfl) (fun W v hv => lay_to (at_ := (fD n).t + (fD n).w - 1) (by omega) (by decide) (by omega) hv (by omega) (by omega)) hp cP (fun W v hv => lay_to (at_ := 0) (by omega) (by decide) (by omega) hv rfl (by omega))
  · exact vpk3_tft n _ _ _ _ _ _ _ _ _ _ 0 k (2 ^ ((fD n).t + ((fD n).w + 5))) w B.cD (by omega) (by omega) (by omega) (by omega) (by omega) (by omega) B.cN _ (2 ^ ((fD n).t + ((fD n).w + 5)) + 31 * 2 ^ ((fD n).t + (fD n).w)) (dlP (fD n).j k) cO cI cS (fun W v hv => layz_to (at_ := (fD n).t + ((fD n).w + 5)) (by decide) (by omega) hv (by omega) (by omega)) (fun W v hv => lay_to (at_ := (fD n).t + (fD n).w) (by omega) (by decide) (by omega) hv (by omega) rfl) hp cP (fun W v hv => lay_to (at_ := 0) (by omega) (by decide) (by omega) hv rfl (by omega))
  · exact vpk3_ttt n _ _ _ _ _ _ _ _ _ _ 0 k (2 ^ ((fD n).t + ((fD n).w + 5))) w B.cD (by omega) (by omega) (by omega) (by omega) (by omega) (by omega) B.cN _ (2 ^ ((fD n).t + ((fD n).w + 5)) + 31 * 2 ^ ((fD n).t + (fD n).w)) (2 ^ ((fD n).t + ((fD n).w + 5)) + 31 * 2 ^ ((fD n).t + (fD n).w) + 2 ^ ((fD n).t + (fD n).w - 1)) (dlP (fD n).j k) cO cI cS (fun W v hv => layz_to (at_ := (fD n).t + ((fD n).w + 5)) (by decide) (by omega) hv (by omega) (by omega)) (fun W v hv => lay_to (at_ := (fD n).t + (fD n).w) (by omega) (by decide) (by omega) hv (by omega) rfl) (fun W v hv => lay_to (at_ := (fD n).t + (fD n).w - 1) (by omega) (by decide) (by omega) hv (by omega) (by omega)) hp cP (fun W v hv => lay_to (at_ := 0) (by omega) (by decide) (by omega) hv rfl (by omega))
theorem vpk_dense {n : Int} (h : decN n) (hdn : (fD n).dn = true) {s : Bool} {x : Int} {k : Nat} (w : World) (hk : k < 10 ^ (3 * (fD n).j + 1)) (hx0 : (fD n).l ≤ x) (hx1 : x ≤ (fD n).l + 3 * 2 ^ (fD n).w - 1) :
    Calls Tryz.prog 22 #[.int .i64 n, DV 1 s false x k] w fun r w' => r = .returned (.tuple #[A4 (vP (fD n) ⟨1, s, false, x, k⟩), .int .i64 0]) ∧ Below w.heap.size w w' := by
  have ho := fD_ok n
  obtain ⟨w6, w12, t20, t110, j2, j11, t64, l0, l1, H0, H1⟩ := ok_bounds ho
  have hI : vI (fD n) ⟨1, s, false, x, k⟩ := Or.inl ⟨rfl, rfl, hk, hx0, hx1⟩
  have hPG := vPG_lt ho hI
  have p2 : (2 : Nat) ^ 220 < 2 ^ 256 := by decide
  have pt := p_200 (a := (fD n).t) (by omega)
  have p1 := p_200 (a := (fD n).t + ((fD n).w + 5)) (by omega)
  have hk34 : k < 2 ^ 256 := by
    have e : (10 : Nat) ^ (3 * (fD n).j + 1) ≤ 10 ^ 34 := Nat.pow_le_pow_right (by decide) (by omega)
    have e2 : (10 : Nat) ^ 34 < 2 ^ 256 := by decide
    omega
  have B := vb_of h (d := ⟨1, s, false, x, k⟩) hk34 hI
  have cO := B.cO
  have cI := B.cI
  have cS := B.cS
  rw [hdn] at cO cI cS
  have hD : 0 < (10 : Nat) ^ (3 * (fD n).j) := Nat.pow_pos (by decide)
  have ha : k / 10 ^ (3 * (fD n).j) ≤ 9 := by
    have : k / 10 ^ (3 * (fD n).j) < 10 := by
      rw [Nat.div_lt_iff_lt_mul hD, ← Nat.pow_succ']
      exact hk
    omega
  have hr : k % 10 ^ (3 * (fD n).j) < 1000 ^ (fD n).j := by rw [← ten3]; exact Nat.mod_lt _ hD
  have hpl : dlP (fD n).j (k % 10 ^ (3 * (fD n).j)) < 2 ^ (fD n).t := by rw [ho.pt]; exact dlP_lt _ _
  have e : vP (fD n) ⟨1, s, false, x, k⟩ = (if s then 2 ^ ((fD n).t + ((fD n).w + 5)) else 0) + dlP (fD n).j (k % 10 ^ (3 * (fD n).j)) + vN true (fD n).w (x - (fD n).l).toNat (k / 10 ^ (3 * (fD n).j)) * 2 ^ (fD n).t := by
    unfold vP vPG vPR vQ
    simp only [show ¬ (1 : Int) = 2 by decide, show ¬ (1 : Int) = 3 by decide, if_false, hdn, if_true]
    omega
  rw [e]
  have hrr : k % 10 ^ (3 * (fD n).j) < 2 ^ 256 := by have := Nat.mod_le k (10 ^ (3 * (fD n).j)); omega
  generalize hka : k / 10 ^ (3 * (fD n).j) = a at *
  generalize hkr : k % 10 ^ (3 * (fD n).j) = rr at *
  obtain ⟨E, hE⟩ : ∃ E : Nat, (x - (fD n).l).toNat = E := ⟨_, rfl⟩
  have hEx : x - (fD n).l = (E : Int) := by omega
  have hE3 : E < 3 * 2 ^ (fD n).w := by
    have e3 : ((3 * 2 ^ (fD n).w : Nat) : Int) = 3 * 2 ^ (fD n).w := by simp
    omega
  rw [hE]
  have cW : ∀ W, Calls Tryz.prog 56 #[.int .u64 10, .int .i64 (3 * ((fD n).j : Int))] W fun r w' => ∃ v, r = .returned v ∧ NT 200 (10 ^ (3 * (fD n).j)) v w' ∧ Below W.heap.size W w' := fun W => by
    have := rpow_nt 10 (3 * (fD n).j) W (by decide) (by decide) (by omega)
    rw [show ((3 * (fD n).j : Nat) : Int) = 3 * ((fD n).j : Int) by omega] at this
    exact this.mono fun r w' ⟨v, e1, e2, e3⟩ => ⟨v, e1, e2.more (by omega), e3⟩
  have cV : ∀ W vn vd, NT 4 k vn W → NT 200 (10 ^ (3 * (fD n).j)) vd W → Calls Tryz.prog 16 #[vn, vd] W fun r w' => ∃ g k cap v, r = .returned (.tuple #[.slice (some ⟨g, 0, none⟩) k cap, v]) ∧ W.heap.size ≤ g ∧ NV 41000 a (.slice (some ⟨g, 0, none⟩) k cap) w' ∧ NT 41000 rr v w' ∧ Below W.heap.size W w' := fun W vn vd h1 h2 => by
    have := roverf_nt (K := 200) (by decide) (h1.more (by decide)) h2 (by omega)
    rw [hka, hkr] at this
    exact this
  have cP : ∀ W, Calls Tryz.prog 59 #[A4 rr, .int .i64 ((fD n).j : Int)] W fun r w' => r = .returned (.tuple #[A4 (dlP (fD n).j rr), .int .i64 0]) ∧ Below W.heap.size W w' := fun W => by
    have := rpck_any rr ((fD n).j : Int) W hrr
    have c1 : (0 : Int) ≤ ((fD n).j : Int) ∧ ((fD n).j : Int) ≤ 11 := by omega
    unfold dPv dPe at this
    rw [if_pos c1, if_pos c1, Int.toNat_natCast, if_pos hr, if_pos hr] at this
    exact this
  have cM : ∀ W v, NV 41000 a v W → Calls Tryz.prog 52 #[v] W fun r w' => r = .returned (.int .i64 (a : Int)) ∧ W = w' := fun W v hv => (number_wide hv (by decide) (by omega)).mono fun r w' ⟨e1, e2⟩ => ⟨e1, e2.symm⟩
  have hp : dlP (fD n).j rr < 2 ^ 256 := by omega
  have hQ2 : E / 2 ^ (fD n).w ≤ 2 := by
    have : E / 2 ^ (fD n).w < 3 := by rw [Nat.div_lt_iff_lt_mul (Nat.two_pow_pos _)]; exact hE3
    omega
  have hLt : E % 2 ^ (fD n).w < 2 ^ (fD n).w := Nat.mod_lt _ (Nat.two_pow_pos _)
  have hH : (2 : Int) ^ (fD n).w = ((2 ^ (fD n).w : Nat) : Int) := (powCast _).symm
  have hL := and_lay E (fD n).w (by omega) (by omega)
  have hQ : (E : Int) / ((2 ^ (fD n).w : Nat) : Int) = ((E / 2 ^ (fD n).w : Nat) : Int) := by simp
  have hvn : vN true (fD n).w E a = (if 8 ≤ a then 24 + E / 2 ^ (fD n).w * 2 + a % 2 else E / 2 ^ (fD n).w * 8 + a) * 2 ^ (fD n).w + E % 2 ^ (fD n).w := rfl
  have x5 : 2 ^ ((fD n).t + ((fD n).w + 5)) = 32 * (2 ^ (fD n).w * 2 ^ (fD n).t) := by rw [← Nat.pow_add, show (32 : Nat) = 2 ^ 5 by decide, ← Nat.pow_add]; congr 1; omega
  have hS : (if s then 2 ^ ((fD n).t + ((fD n).w + 5)) else 0) < 2 ^ 220 := by split <;> omega
  by_cases h8 : 8 ≤ a
  · rw [if_pos h8] at hvn
    have o2 := or_lay 3 (E / 2 ^ (fD n).w * 2) 3 (by omega) (by omega)
    rw [show ((3 * 2 ^ 3 : Nat) : Int) = 24 by decide, show ((E / 2 ^ (fD n).w * 2 : Nat) : Int) = ((E / 2 ^ (fD n).w : Nat) : Int) * 2 by omega] at o2
    have o3 : bits .and .u64 (a : Int) 1 = ((a % 2 : Nat) : Int) := and_lay a 1 (by decide) (by omega)
    have o4 := or_lay (12 + E / 2 ^ (fD n).w) (a % 2) 1 (by omega) (by omega)
    rw [show (((12 + E / 2 ^ (fD n).w) * 2 ^ 1 : Nat) : Int) = ((3 * 2 ^ 3 + E / 2 ^ (fD n).w * 2 : Nat) : Int) by omega, show (12 + E / 2 ^ (fD n).w) * 2 ^ 1 + a % 2 = 24 + E / 2 ^ (fD n).w * 2 + a % 2 by omega] at o4
    generalize hV : 24 + E / 2 ^ (fD n).w * 2 + a % 2 = V at *
    have hV1 : V ≤ 31 := by omega
    have hVH : V * 2 ^ (fD n).w ≤ 31 * 4096 := Nat.mul_le_mul hV1 H1
    have o5 := or_lay V (E % 2 ^ (fD n).w) (fD n).w hLt (by omega)
    rw [← hvn, Int.natCast_mul] at o5
    generalize hF : vN true (fD n).w E a = Fw at *
    cases s
    · exact vpk1_fdb n _ _ _ _ _ _ _ _ _ _ x k w B.cD (by omega) (by omega) (by omega) (by omega) (by omega) (by omega) B.cN (E : Int) (fD n).w a _ _ _ hEx (by omega) (by omega) (by omega) (by omega) (by omega) (by omega) (by omega) w12 hH (by omega) (by omega) ha hQ (by omega) (by omega) hL _ (dlP (fD n).j rr) (dlP (fD n).j rr) 200 (10 ^ (3 * (fD n).j)) rr Fw _ _ _ _ cO cI cS hp cW cV (fun W v hv => bits_nv hv.nv) cP cM (fun W v hv => layz_to (at_ := 0) (by decide) (by omega) hv rfl (by omega)) rfl (by omega) o2 o3 o4 (by omega) (by omega) (by rw [← Int.natCast_mul]; omega) (by rw [← Int.natCast_mul]; omega) o5 (by omega) (fun W v hv => lay_to (at_ := (fD n).t) (by omega) (by decide) (by omega) hv rfl (by simp))
    · exact vpk1_tdb n _ _ _ _ _ _ _ _ _ _ x k (2 ^ ((fD n).t + ((fD n).w + 5))) w B.cD (by omega) (by omega) (by omega) (by omega) (by omega) (by omega) B.cN (E : Int) (fD n).w a _ _ _ hEx (by omega) (by omega) (by omega) (by omega) (by omega) (by omega) (by omega) w12 hH (by omega) (by omega) ha hQ (by omega) (by omega) hL _ (2 ^ ((fD n).t + ((fD n).w + 5)) + dlP (fD n).j rr) (dlP (fD n).j rr) 200 (10 ^ (3 * (fD n).j)) rr Fw _ _ _ _ cO cI cS (fun W v hv => layz_to (at_ := (fD n).t + ((fD n).w + 5)) (by decide) (by omega) hv (by omega) (by omega)) hp cW cV (fun W v hv => bits_nv hv.nv) cP cM (fun W v hv => lay_to (at_ := 0) (by omega) (by decide) (by omega) hv rfl (by omega)) rfl (by omega) o2 o3 o4 (by omega) (by omega) (by rw [← Int.natCast_mul]; omega) (by rw [← Int.natCast_mul]; omega) o5 (by omega) (fun W v hv => lay_to (at_ := (fD n).t) (by simp only [if_true] at hS; omega) (by decide) (by omega) hv rfl (by simp))
  · rw [if_neg h8] at hvn
    have o1 := or_lay (E / 2 ^ (fD n).w) a 3 (by omega) (by omega)
    rw [show ((E / 2 ^ (fD n).w * 2 ^ 3 : Nat) : Int) = ((E / 2 ^ (fD n).w : Nat) : Int) * 8 by omega, show E / 2 ^ (fD n).w * 2 ^ 3 + a = E / 2 ^ (fD n).w * 8 + a by omega] at o1
    generalize hV : E / 2 ^ (fD n).w * 8 + a = V at *
    have hV1 : V ≤ 31 := by omega
    have hVH : V * 2 ^ (fD n).w ≤ 31 * 4096 := Nat.mul_le_mul hV1 H1
    have o5 := or_lay V (E % 2 ^ (fD n).w) (fD n).w hLt (by omega)
    rw [← hvn, Int.natCast_mul] at o5
    generalize hF : vN true (fD n).w E a = Fw at *
    cases s
    · exact vpk1_fds n _ _ _ _ _ _ _ _ _ _ x k w B.cD (by omega) (by omega) (by omega) (by omega) (by omega) (by omega) B.cN (E : Int) (fD n).w a _ _ _ hEx (by omega) (by omega) (by omega) (by omega) (by omega) (by omega) (by omega) w12 hH (by omega) (by omega) ha hQ (by omega) (by omega) hL _ (dlP (fD n).j rr) (dlP (fD n).j rr) 200 (10 ^ (3 * (fD n).j)) rr Fw _ cO cI cS hp cW cV (fun W v hv => bits_nv hv.nv) cP cM (fun W v hv => layz_to (at_ := 0) (by decide) (by omega) hv rfl (by omega)) o1 (by omega) (by omega) (by omega) (by rw [← Int.natCast_mul]; omega) (by rw [← Int.natCast_mul]; omega) o5 (by omega) (fun W v hv => lay_to (at_ := (fD n).t) (by omega) (by decide) (by omega) hv rfl (by simp))
    · exact vpk1_tds n _ _ _ _ _ _ _ _ _ _ x k (2 ^ ((fD n).t + ((fD n).w + 5))) w B.cD (by omega) (by omega) (by omega) (by omega) (by omega) (by omega) B.cN (E : Int) (fD n).w a _ _ _ hEx (by omega) (by omega) (by omega) (by omega) (by omega) (by omega) (by omega) w12 hH (by omega) (by omega) ha hQ (by omega) (by omega) hL _ (2 ^ ((fD n).t + ((fD n).w + 5)) + dlP (fD n).j rr) (dlP (fD n).j rr) 200 (10 ^ (3 * (fD n).j)) rr Fw _ cO cI cS (fun W v hv => layz_to (at_ := (fD n).t + ((fD n).w + 5)) (by decide) (by omega) hv (by omega) (by omega)) hp cW cV (fun W v hv => bits_nv hv.nv) cP cM (fun W v hv => lay_to (at_ := 0) (by omega) (by decide) (by omega) hv rfl (by omega)) o1 (by omega) (by omega) (by omega) (by rw [← Int.natCast_mul]; omega) (by rw [← Int.natCast_mul]; omega) o5 (by omega) (fun W v hv => lay_to (at_ := (fD n).t) (by simp only [if_true] at hS; omega) (by decide) (by omega) hv rfl (by simp))
theorem vpk_plain {n : Int} (h : decN n) (hdn : (fD n).dn = false) {s : Bool} {x : Int} {k : Nat} (w : World) (hk : k < 10 ^ (3 * (fD n).j + 1)) (hx0 : (fD n).l ≤ x) (hx1 : x ≤ (fD n).l + 3 * 2 ^ (fD n).w - 1) :
    Calls Tryz.prog 22 #[.int .i64 n, DV 1 s false x k] w fun r w' => r = .returned (.tuple #[A4 (vP (fD n) ⟨1, s, false, x, k⟩), .int .i64 0]) ∧ Below w.heap.size w w' := by
  have ho := fD_ok n
  obtain ⟨w6, w12, t20, t110, j2, j11, t64, l0, l1, H0, H1⟩ := ok_bounds ho
  have hI : vI (fD n) ⟨1, s, false, x, k⟩ := Or.inl ⟨rfl, rfl, hk, hx0, hx1⟩
  have p2 : (2 : Nat) ^ 220 < 2 ^ 256 := by decide
  have pt := p_200 (a := (fD n).t) (by omega)
  have p1 := p_200 (a := (fD n).t + ((fD n).w + 5)) (by omega)
  have hk34 : k < 2 ^ 256 := by
    have e : (10 : Nat) ^ (3 * (fD n).j + 1) ≤ 10 ^ 34 := Nat.pow_le_pow_right (by decide) (by omega)
    have e2 : (10 : Nat) ^ 34 < 2 ^ 256 := by decide
    omega
  have B := vb_of h (d := ⟨1, s, false, x, k⟩) hk34 hI
  have cO := B.cO
  have cI := B.cI
  have cS := B.cS
  rw [hdn] at cO cI cS
  have ha : k / 2 ^ (fD n).t ≤ 9 := by
    rcases ho with ⟨h1, h2, h3, h4⟩ | ⟨h1, h2, h3, h4⟩ | ⟨h1, h2, h3, h4⟩ <;> rw [h3] at hk <;> rw [h1] <;> simp only [Nat.reducePow, Nat.reduceAdd, Nat.reduceMul] at * <;> omega
  have hrl : k % 2 ^ (fD n).t < 2 ^ (fD n).t := Nat.mod_lt _ (Nat.two_pow_pos _)
  have e : vP (fD n) ⟨1, s, false, x, k⟩ = (if s then 2 ^ ((fD n).t + ((fD n).w + 5)) else 0) + k % 2 ^ (fD n).t + vN false (fD n).w (x - (fD n).l).toNat (k / 2 ^ (fD n).t) * 2 ^ (fD n).t := by
    unfold vP vPG vPR vQ
    simp only [show ¬ (1 : Int) = 2 by decide, show ¬ (1 : Int) = 3 by decide, if_false, hdn, Bool.false_eq_true]
    omega
  rw [e]
  have cR : ∀ W vn, NT 4 k vn W → Calls Tryz.prog 45 #[vn, .int .i64 ((fD n).t : Int)] W fun r w' => ∃ g k' cap b, r = .returned (.tuple #[.slice (some ⟨g, 0, none⟩) k' cap, .bool b]) ∧ W.heap.size ≤ g ∧ NV 4 (k / 2 ^ (fD n).t) (.slice (some ⟨g, 0, none⟩) k' cap) w' ∧ Below W.heap.size W w' := fun W vn hv => rrightf_nv (fD n).t (by decide) (by omega) t64 hv.nv
  have cF : ∀ W, Calls Tryz.prog 53 #[A4 k, .int .i64 0, .int .i64 ((fD n).t : Int)] W fun r w' => ∃ v, r = .returned v ∧ NT 19 (k % 2 ^ (fD n).t) v w' ∧ Below W.heap.size W w' := fun W => by
    have := field_any k 0 (fD n).t W hk34 (by decide) (by omega)
    rw [Nat.pow_zero, Nat.div_one] at this
    exact this
  generalize k / 2 ^ (fD n).t = a at *
  generalize k % 2 ^ (fD n).t = rr at *
  obtain ⟨E, hE⟩ : ∃ E : Nat, (x - (fD n).l).toNat = E := ⟨_, rfl⟩
  have hEx : x - (fD n).l = (E : Int) := by omega
  have hE3 : E < 3 * 2 ^ (fD n).w := by
    have e3 : ((3 * 2 ^ (fD n).w : Nat) : Int) = 3 * 2 ^ (fD n).w := by simp
    omega
  rw [hE]
  have cM : ∀ W v, NV 4 a v W → Calls Tryz.prog 52 #[v] W fun r w' => r = .returned (.int .i64 (a : Int)) ∧ W = w' := fun W v hv => (number_wide hv (by decide) (by omega)).mono fun r w' ⟨e1, e2⟩ => ⟨e1, e2.symm⟩
  have hH : (2 : Int) ^ (fD n).w = ((2 ^ (fD n).w : Nat) : Int) := (powCast _).symm
  have hvn : vN false (fD n).w E a = (if 8 ≤ a then 3 * 2 ^ ((fD n).w + 3) + E * 2 + a % 2 else E * 8 + a) := rfl
  have hS : (if s then 2 ^ ((fD n).t + ((fD n).w + 5)) else 0) < 2 ^ 220 := by split <;> omega
  have w3 : 2 ^ ((fD n).w + 3) = 8 * 2 ^ (fD n).w := by rw [Nat.pow_add, Nat.mul_comm]
  have w2 : 2 ^ ((fD n).w + 2) = 4 * 2 ^ (fD n).w := by rw [Nat.pow_add, Nat.mul_comm]
  by_cases h8 : 8 ≤ a
  · rw [if_pos h8] at hvn
    have o2 := or_lay 3 (E * 2) ((fD n).w + 3) (by omega) (by omega)
    rw [Int.natCast_mul 3, show ((E * 2 : Nat) : Int) = (E : Int) * 2 by omega] at o2
    have o3 : bits .and .u64 (a : Int) 1 = ((a % 2 : Nat) : Int) := and_lay a 1 (by decide) (by omega)
    have o4 := or_lay (3 * 2 ^ ((fD n).w + 2) + E) (a % 2) 1 (by omega) (by omega)
    rw [show (3 * 2 ^ ((fD n).w + 2) + E) * 2 ^ 1 = 3 * 2 ^ ((fD n).w + 3) + E * 2 by omega, ← hvn] at o4
    have hH8 : (2 : Int) ^ ((fD n).w + 3) = ((2 ^ ((fD n).w + 3) : Nat) : Int) := (powCast _).symm
    generalize hF : vN false (fD n).w E a = Fw at *
    cases s
    · exact vpk1_fpb n _ _ _ _ _ _ _ _ _ _ x k w B.cD (by omega) (by omega) (by omega) (by omega) (by omega) (by omega) B.cN (E : Int) (fD n).w a _ hEx (by omega) (by omega) (by omega) (by omega) (by omega) (by omega) (by omega) w12 hH (by omega) (by omega) ha _ rr rr Fw _ _ _ _ cO cI cS cR cF cM (fun W v hv => layz_to (at_ := 0) (by decide) (by omega) hv rfl (by omega)) rfl (by omega) hH8 (by omega) (by omega) o2 o3 o4 (by omega) (fun W v hv => lay_to (at_ := (fD n).t) (by omega) (by decide) (by omega) hv rfl (by simp))
    · exact vpk1_tpb n _ _ _ _ _ _ _ _ _ _ x k (2 ^ ((fD n).t + ((fD n).w + 5))) w B.cD (by omega) (by omega) (by omega) (by omega) (by omega) (by omega) B.cN (E : Int) (fD n).w a _ hEx (by omega) (by omega) (by omega) (by omega) (by omega) (by omega) (by omega) w12 hH (by omega) (by omega) ha _ (2 ^ ((fD n).t + ((fD n).w + 5)) + rr) rr Fw _ _ _ _ cO cI cS (fun W v hv => layz_to (at_ := (fD n).t + ((fD n).w + 5)) (by decide) (by omega) hv (by omega) (by omega)) cR cF cM (fun W v hv => lay_to (at_ := 0) (by omega) (by decide) (by omega) hv rfl (by omega)) rfl (by omega) hH8 (by omega) (by omega) o2 o3 o4 (by omega) (fun W v hv => lay_to (at_ := (fD n).t) (by simp only [if_true] at hS; omega) (by decide) (by omega) hv rfl (by simp))
  · rw [if_neg h8] at hvn
    have o1 := or_lay E a 3 (by omega) (by omega)
    rw [show ((E * 2 ^ 3 : Nat) : Int) = (E : Int) * 8 by omega, show E * 2 ^ 3 + a = E * 8 + a by omega, ← hvn] at o1
    generalize hF : vN false (fD n).w E a = Fw at *
    cases s
    · exact vpk1_fps n _ _ _ _ _ _ _ _ _ _ x k w B.cD (by omega) (by omega) (by omega) (by omega) (by omega) (by omega) B.cN (E : Int) (fD n).w a _ hEx (by omega) (by omega) (by omega) (by omega) (by omega) (by omega) (by omega) w12 hH (by omega) (by omega) ha _ rr rr Fw cO cI cS cR cF cM (fun W v hv => layz_to (at_ := 0) (by decide) (by omega) hv rfl (by omega)) o1 (by omega) (by omega) (fun W v hv => lay_to (at_ := (fD n).t) (by omega) (by decide) (by omega) hv rfl (by simp))
    · exact vpk1_tps n _ _ _ _ _ _ _ _ _ _ x k (2 ^ ((fD n).t + ((fD n).w + 5))) w B.cD (by omega) (by omega) (by omega) (by omega) (by omega) (by omega) B.cN (E : Int) (fD n).w a _ hEx (by omega) (by omega) (by omega) (by omega) (by omega) (by omega) (by omega) w12 hH (by omega) (by omega) ha _ (2 ^ ((fD n).t + ((fD n).w + 5)) + rr) rr Fw cO cI cS (fun W v hv => layz_to (at_ := (fD n).t + ((fD n).w + 5)) (by decide) (by omega) hv (by omega) (by omega)) cR cF cM (fun W v hv => lay_to (at_ := 0) (by omega) (by decide) (by omega) hv rfl (by omega)) o1 (by omega) (by omega) (fun W v hv => lay_to (at_ := (fD n).t) (by simp only [if_true] at hS; omega) (by decide) (by omega) hv rfl (by simp))
theorem rpk14 (n : Int) (d : Dat) (w : World) (hk : d.k < 2 ^ 256) :
    Calls Tryz.prog 22 #[.int .i64 n, d.v] w fun r w' => r = .returned (.tuple #[A4 (vPV n d), .int .i64 (vPE n d)]) ∧ Below w.heap.size w w' := by
  unfold vPV vPE
  by_cases h : decN n
  · rw [if_pos h]
    by_cases hi : vI (fD n) d
    · rw [if_pos ⟨h, hi⟩, if_pos hi]
      obtain ⟨c, s, g, x, k⟩ := d
      rcases id hi with ⟨c1, g1, k1, x1, x2⟩ | ⟨c1, g1, k1, x1⟩ | ⟨c1, x1, k1⟩
      · simp only at c1 g1 k1 x1 x2
        subst c1 g1
        cases hdn : (fD n).dn
        · exact vpk_plain h hdn w k1 x1 x2
        · exact vpk_dense h hdn w k1 x1 x2
      · simp only at c1 g1 k1 x1
        subst c1 g1 k1 x1
        exact vpk_inf h w hi
      · simp only at c1 k1 x1
        subst c1 x1
        exact vpk_nan h w k1
    · rw [if_neg (fun q => hi q.2), if_neg hi, Z4_eq]
      refine vpk_i n d.c d.s d.g d.x d.k w (nameN n) _ _ (expN n) _ _ _ _ (fun W => ?_) (fun W => rof_dec h W) (fun W => ?_)
      · have := rdecimal_any n W
        rw [decide_eq_true h] at this
        exact this
      · have := ris14 (fD n) (fD_ok n) n (nameN n) (((fD n).t + ((fD n).w + 6) : Nat) : Int) (expN n) (fD n).dn d W hk
        rw [decide_eq_false hi] at this
        exact this
  · rw [if_neg (fun q => h q.1), if_neg h, Z4_eq]
    refine vpk_n n d.c d.s d.g d.x d.k w (fun W => ?_)
    have := rdecimal_any n W
    rw [decide_eq_false h] at this
    exact this
end Go.Proofs.YtmommdhnogogdaaGreatDoor
