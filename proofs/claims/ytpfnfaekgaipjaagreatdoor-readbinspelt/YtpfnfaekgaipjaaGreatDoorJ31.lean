/-
  Texts that the proof leans on, joined: Xc, Wc, Lr, Wf, Xd, Oc, Lai, Tc, Xf, Xr.
-/
import Derived.Test.YtpfnfaekgaipjaaGreatDoorJ30
import Derived.Test.YtpfnfaekgaipjaaGreatDoorJ1
import Derived.Test.YtpfnfaekgaipjaaGreatDoorJ24
import Derived.Test.YtpfnfaekgaipjaaGreatDoorJ15
import Derived.Test.YtpfnfaekgaipjaaGreatDoorJ16
import Derived.Test.YtpfnfaekgaipjaaGreatDoorJ21
import Derived.Test.YtpfnfaekgaipjaaGreatDoorJ17
import Derived.Deep.Cut
import Derived.Deep.CutRange
import Derived.Deep.RegionWith
import Derived.Test.YtpfnfaekgaipjaaGreatDoorJ22
import Derived.Test.YtpfnfaekgaipjaaGreatDoorJ14
import Derived.Test.YtpfnfaekgaipjaaGreatDoorJ10
import Derived.Lib.SmallJoins
set_option linter.unusedVariables false
set_option linter.unusedSectionVars false
set_option linter.unusedSimpArgs false
set_option maxRecDepth 20000
namespace Go.Proofs.YtpfnfaekgaipjaaGreatDoor
open Go.RowKit

theorem payload8 (n : Int) (nm : ByteArray) (wd : Int) (f e : Nat) (l m : Int) (c : Int) (s g : Bool) (d : List UInt8) (x : Int) (w : World) (hf : f ≤ 240) (hd : d.all dg = true) (hl : d.length ≤ 4000) :
    Calls Tryz.prog 29 #[DI n nm wd f e l m, PV c s g d x] w fun r w' => r = .returned (A4 (plV f g (dV d))) ∧ Below w.heap.size w w' :=
  payload_w n nm wd f e l m c s g d x (dV d) w hf (fun W => natural8 d W hd hl) (fun W v V h => nlen_v (by decide) h.nt)
theorem five_bl (k : Nat) : bl (5 ^ k) ≤ 3 * k + 1 := by
  refine bl_le.2 ?_
  have h1 : 5 ^ k ≤ 8 ^ k := Nat.pow_le_pow_left (by decide) k
  have h2 : (8 : Nat) ^ k = 2 ^ (3 * k) := by rw [Nat.pow_mul]
  have h3 : (2 : Nat) ^ (3 * k) < 2 ^ (3 * k + 1) := Nat.pow_lt_pow_right (by decide) (by omega)
  omega
theorem bl_mul (a b : Nat) : bl (a * b) ≤ bl a + bl b := by
  refine bl_le.2 ?_
  rw [Nat.pow_add]
  have h1 := bl_le.1 (Nat.le_refl (bl a))
  have h2 := bl_le.1 (Nat.le_refl (bl b))
  exact Nat.mul_lt_mul'' h1 h2
theorem npow5 (m : Nat) (w : World) (hm : m ≤ 12000) : Calls Tryz.prog 50 #[.int .i64 5, .int .i64 (m : Int)] w fun r w' => ∃ v, r = .returned (.tuple #[v, .int .i64 0]) ∧ Nt 2001 (5 ^ m) v w' ∧ Below w.heap.size w w' := by
  refine (npow_any 5 m w (Or.inl rfl) hm).mono fun r w' ⟨g, k, cap, z, e1, hk, hN, hv, hs, hB⟩ => ⟨_, e1, ⟨_, k, cap, z, rfl, hk, hN, ?_⟩, hB⟩
  rw [hv]; simp
theorem nmul_v {A P : Nat} {v v' : Value} {w : World} (h : Nz 251 A v w) (h' : Nt 2001 P v' w) (hA : bl A ≤ 64 * 251) (hP : bl P ≤ 64 * 1500) :
    Calls Tryz.prog 51 #[v, v'] w fun r w' => ∃ q, r = .returned (.tuple #[q, .int .i64 0]) ∧ Nt 2001 (A * P) q w' ∧ Below w.heap.size w w' := by
  obtain ⟨a, k, cap, z, rfl, hk, hN, hv, hs⟩ := h
  obtain ⟨a', k', cap', z', rfl, hk', hN', hv'⟩ := h'
  have s1 := (size_bl (m := 251) hN.2.2.1 hv).2 hA
  have s2 := (size_bl (m := 1500) hN'.2.2.1 hv').2 hP
  have hm : ¬ 2000 < sizeL z k + sizeL z' k' := by omega
  have c := nmul_all a a' k cap k' cap' z z' w (by omega) (by omega) hN hN'
  unfold mulE mulV at c
  rw [if_neg hm, if_neg hm] at c
  refine c.mono fun r w' ⟨o, q, cp, y, e1, hq, hNq, hvq, hsq, hB⟩ => ⟨_, e1, ⟨_, q, cp, y, rfl, by omega, hNq, ?_⟩, hB⟩
  rw [hvq, hv, hv']; simp
attribute [local irreducible] W4 Nz Nt
section
variable (n d : Int) (c : Int) (s g : Bool) (l : List UInt8) (x e : Int) (A P R : Nat) (F E : Int) (w : World) (hT : Tab w) (heb : -20000 ≤ e ∧ e ≤ 20000)
  (c65 : ∀ W, Calls Tryz.prog 48 #[PV c s g l x] W fun r w' => r = .returned (.int .i64 e) ∧ Below W.heap.size W w')
  (c66 : ∀ W, Calls Tryz.prog 49 #[.string (B l)] W fun r w' => ∃ v, r = .returned v ∧ Nz 251 A v w' ∧ Below W.heap.size W w')
include hT heb c65 c66
set_option maxHeartbeats 4000000 in
theorem fin8_neg (he : e < 0)
    (c67 : ∀ W k, k = -e → Calls Tryz.prog 50 #[.int .i64 5, .int .i64 k] W fun r w' => ∃ v, r = .returned (.tuple #[v, .int .i64 0]) ∧ Nt 2001 P v w' ∧ Below W.heap.size W w')
    (c69 : ∀ W v v', Tab W → Nz 251 A v W → Nt 2001 P v' W → Calls Tryz.prog 52 #[.int .i64 n, .int .i64 d, .bool s, v, v', .int .i64 e] W fun r w' => r = .returned (.tuple #[A4 R, .int .i64 F, .int .i64 E]) ∧ Below W.heap.size W w') :
    Calls Tryz.prog 28 #[.int .i64 n, .int .i64 d, PV c s g l x] w fun r w' => r = .returned (.tuple #[A4 R, .int .i64 F, .int .i64 E]) ∧ Below w.heap.size w w' := by
  have hsm := cell_set_map
  unfold PV at *
  go_enter Tryz.func28, Tryz.ntmps28
  go_wp2_with (first
    | (go_at_call 48; refine (c65 _).mono ?_; rintro r w1 ⟨rfl, hb1⟩; obtain ⟨hc1, hf1⟩ := bcell hb1; have hz1_0 : w.heap.size < w1.heap.size := lt_below hb1 ltg; have hl1_0 := Nat.le_of_lt hz1_0; have hz1_1 : w.heap.size + 1 < w1.heap.size := lt_below hb1 ltg; have hl1_1 := Nat.le_of_lt hz1_1; have hA1 := bnext (w0 := w) bgo hb1; have hs1 := hA1.size; clear hb1)
    | (go_at_call 49; refine (c66 _).mono ?_; rintro r w2 ⟨v2, rfl, hv2, hb2⟩; obtain ⟨hc2, hf2⟩ := bcell hb2; have hz2_0 : w.heap.size < w2.heap.size := lt_below hb2 ltg; have hl2_0 := Nat.le_of_lt hz2_0; have hz2_1 : w.heap.size + 1 < w2.heap.size := lt_below hb2 ltg; have hl2_1 := Nat.le_of_lt hz2_1; have hA2 := bnext (w0 := w) bgo hb2; have hs2 := hA2.size; clear hb2)
    | (go_at_call 50; refine (c67 _ _ (by omega)).mono ?_; rintro r w3 ⟨v3, rfl, hv3, hb3⟩; have hv2' := hv2.next ((below1 w2 _).trans (hb3.mono (by simp))); obtain ⟨hc3, hf3⟩ := bcell hb3; have hz3_0 : w.heap.size < w3.heap.size := lt_below hb3 ltg; have hl3_0 := Nat.le_of_lt hz3_0; have hz3_1 : w.heap.size + 1 < w3.heap.size := lt_below hb3 ltg; have hl3_1 := Nat.le_of_lt hz3_1; have hA3 := bnext (w0 := w) bgo hb3; have hs3 := hA3.size; clear hb3)
    | (go_at_call 52; refine (c69 _ _ _ (hT.go bgo) hv2' hv3).mono ?_; rintro r w4 ⟨rfl, hb4⟩; obtain ⟨hc4, hf4⟩ := bcell hb4; have hz4_0 : w.heap.size < w4.heap.size := lt_below hb4 ltg; have hl4_0 := Nat.le_of_lt hz4_0; have hz4_1 : w.heap.size + 1 < w4.heap.size := lt_below hb4 ltg; have hl4_1 := Nat.le_of_lt hz4_1; have hA4 := bnext (w0 := w) bgo hb4; have hs4 := hA4.size; clear hb4))
  exact bodyPost_ret (v := .tuple #[A4 R, .int .i64 F, .int .i64 E]) (by simp only [results, Tryz.results28]; go_simp) rfl ⟨rfl, bgo⟩
set_option maxHeartbeats 4000000 in
theorem fin8_pos (he : ¬ e < 0)
    (c67 : ∀ W, Calls Tryz.prog 50 #[.int .i64 5, .int .i64 e] W fun r w' => ∃ v, r = .returned (.tuple #[v, .int .i64 0]) ∧ Nt 2001 P v w' ∧ Below W.heap.size W w')
    (c68 : ∀ W v v', Nz 251 A v W → Nt 2001 P v' W → Calls Tryz.prog 51 #[v, v'] W fun r w' => ∃ q, r = .returned (.tuple #[q, .int .i64 0]) ∧ Nt 2001 (A * P) q w' ∧ Below W.heap.size W w')
    (c69 : ∀ W v v', Tab W → Nt 2001 (A * P) v W → Nt 2001 1 v' W → Calls Tryz.prog 52 #[.int .i64 n, .int .i64 d, .bool s, v, v', .int .i64 e] W fun r w' => r = .returned (.tuple #[A4 R, .int .i64 F, .int .i64 E]) ∧ Below W.heap.size W w') :
    Calls Tryz.prog 28 #[.int .i64 n, .int .i64 d, PV c s g l x] w fun r w' => r = .returned (.tuple #[A4 R, .int .i64 F, .int .i64 E]) ∧ Below w.heap.size w w' := by
  have hsm := cell_set_map
  unfold PV at *
  go_enter Tryz.func28, Tryz.ntmps28
  go_wp2_with (first
    | (go_at_call 48; refine (c65 _).mono ?_; rintro r w1 ⟨rfl, hb1⟩; obtain ⟨hc1, hf1⟩ := bcell hb1; have hz1_0 : w.heap.size < w1.heap.size := lt_below hb1 ltg; have hl1_0 := Nat.le_of_lt hz1_0; have hz1_1 : w.heap.size + 1 < w1.heap.size := lt_below hb1 ltg; have hl1_1 := Nat.le_of_lt hz1_1; have hA1 := bnext (w0 := w) bgo hb1; have hs1 := hA1.size; clear hb1)
    | (go_at_call 49; refine (c66 _).mono ?_; rintro r w2 ⟨v2, rfl, hv2, hb2⟩; obtain ⟨hc2, hf2⟩ := bcell hb2; have hz2_0 : w.heap.size < w2.heap.size := lt_below hb2 ltg; have hl2_0 := Nat.le_of_lt hz2_0; have hz2_1 : w.heap.size + 1 < w2.heap.size := lt_below hb2 ltg; have hl2_1 := Nat.le_of_lt hz2_1; have hA2 := bnext (w0 := w) bgo hb2; have hs2 := hA2.size; clear hb2; have hone : Nt 2001 1 (.slice (some ⟨w2.heap.size, 0, none⟩) 1 1) (w2.alloc (.cells #[.int .u64 1] 22)) := (nt_one rfl rfl (by decide)).more (by decide); have hv2a := hv2.next (below1 w2 (.cells #[.int .u64 1] 22)))
    | (go_at_call 50; refine (c67 _).mono ?_; rintro r w3 ⟨v3, rfl, hv3, hb3⟩; have hv2' := hv2a.next hb3; have hone' := hone.next hb3; obtain ⟨hc3, hf3⟩ := bcell hb3; have hz3_0 : w.heap.size < w3.heap.size := lt_below hb3 ltg; have hl3_0 := Nat.le_of_lt hz3_0; have hz3_1 : w.heap.size + 1 < w3.heap.size := lt_below hb3 ltg; have hl3_1 := Nat.le_of_lt hz3_1; have hA3 := bnext (w0 := w) bgo hb3; have hs3 := hA3.size; clear hb3)
    | (go_at_call 51; refine (c68 _ _ _ hv2' hv3).mono ?_; rintro r w5 ⟨v5, rfl, hv5, hb5⟩; have hone2 := hone'.next hb5; obtain ⟨hc5, hf5⟩ := bcell hb5; have hz5_0 : w.heap.size < w5.heap.size := lt_below hb5 ltg; have hl5_0 := Nat.le_of_lt hz5_0; have hz5_1 : w.heap.size + 1 < w5.heap.size := lt_below hb5 ltg; have hl5_1 := Nat.le_of_lt hz5_1; have hA5 := bnext (w0 := w) bgo hb5; have hs5 := hA5.size; clear hb5)
    | (go_at_call 52; refine (c69 _ _ _ (hT.go bgo) hv5 hone2).mono ?_; rintro r w4 ⟨rfl, hb4⟩; obtain ⟨hc4, hf4⟩ := bcell hb4; have hz4_0 : w.heap.size < w4.heap.size := lt_below hb4 ltg; have hl4_0 := Nat.le_of_lt hz4_0; have hz4_1 : w.heap.size + 1 < w4.heap.size := lt_below hb4 ltg; have hl4_1 := Nat.le_of_lt hz4_1; have hA4 := bnext (w0 := w) bgo hb4; have hs4 := hA4.size; clear hb4))
  exact bodyPost_ret (v := .tuple #[A4 R, .int .i64 F, .int .i64 E]) (by simp only [results, Tryz.results28]; go_simp) rfl ⟨rfl, bgo⟩
end
theorem nz_nt {K V : Nat} {v : Value} {w : World} (h : Nz K V v w) (hK : K ≤ 2001) : Nt 2001 V v w := h.nt.more hK
/-- a finite number, rounded -/
theorem finite8 (n d : Int) (c : Int) (s g : Bool) (l : List UInt8) (x : Int) (w : World) (hT : Tab w) (hb : binN n) (hk : knB d) (hd : l.all dg = true) (hl : l.length ≤ 4000) :
    Calls Tryz.prog 28 #[.int .i64 n, .int .i64 d, PV c s g l x] w fun r w' => r = .returned (.tuple #[A4 (rdV n d s (tN (dV l) (pwE l.length x)) (tD (pwE l.length x)) (pwE l.length x)), .int .i64 (rdF n d s (tN (dV l) (pwE l.length x)) (tD (pwE l.length x)) (pwE l.length x)), .int .i64 0]) ∧ Below w.heap.size w w' := by
  have hpw : -10000 ≤ pwE l.length x ∧ pwE l.length x ≤ 6000 := by unfold pwE; omega
  have c65 := fun W => within8 c s g l x W hl
  have c66 := fun W => natural8 l W hd hl
  have hA : bl (dV l) ≤ 64 * 250 := bl_10 (dV_lt hd).1 (by omega)
  generalize pwE l.length x = e at *
  by_cases he : e < 0
  · have hm := five_bl (-e).toNat
    have e1 : tN (dV l) e = dV l := by unfold tN; rw [show e.toNat = 0 by omega, Nat.pow_zero, Nat.mul_one]
    have e2 : tD e = 5 ^ (-e).toNat := rfl
    rw [e1, e2]
    refine fin8_neg n d c s g l x e (dV l) (5 ^ (-e).toNat) _ _ _ w hT (by omega) c65 c66 he (fun W k hk' => ?_) (fun W v v' hT' hv hv' => ?_)
    · have := npow5 (-e).toNat W (by omega)
      rw [show (((-e).toNat : Nat) : Int) = k by omega] at this
      exact this
    · exact rnd_good n d e s hT' (nz_nt hv (by decide)) hv' hb hk (Nat.pos_iff_ne_zero.1 (Nat.pow_pos (by decide))) (by omega) (by omega)
  · have hm := five_bl e.toNat
    have e1 : tD e = 1 := by unfold tD; rw [show (-e).toNat = 0 by omega, Nat.pow_zero]
    have e2 : tN (dV l) e = dV l * 5 ^ e.toNat := rfl
    rw [e1, e2]
    have hbm := bl_mul (dV l) (5 ^ e.toNat)
    refine fin8_pos n d c s g l x e (dV l) (5 ^ e.toNat) _ _ _ w hT (by omega) c65 c66 he (fun W => ?_) (fun W v v' hv hv' => nmul_v hv hv' (by omega) (by omega)) (fun W v v' hT' hv hv' => ?_)
    · have := npow5 e.toNat W (by omega)
      rw [show ((e.toNat : Nat) : Int) = e by omega] at this
      exact this
    · exact rnd_good n d e s hT' hv hv' hb hk (by decide) (by omega) (by decide)
section
variable (n d : Int) (c : Int) (s g : Bool) (l : List UInt8) (x : Int) (T : List UInt8) (nm : ByteArray) (wd : Int) (f e : Nat) (lo m : Int) (w : World) (hT : Tab w)
include hT
variable (c28 : ∀ W, Tab W → Calls Tryz.prog 24 #[.int .i64 n, .int .i64 d] W fun r w' => r = .returned (.tuple #[DI n nm wd f e lo m, .int .i64 0]) ∧ Below W.heap.size W w')
include c28
variable (c31 : ∀ W, Below w.heap.size w W → Calls Tryz.prog 27 #[PV c s g l x] W fun r w' => r = .returned (.tuple #[.string (B T), .int .i64 0]) ∧ Below W.heap.size W w')
include c31
set_option maxHeartbeats 4000000 in
theorem make_1 (hc : c = 1) (R : Nat) (F E : Int) (c32 : ∀ W, Tab W → Calls Tryz.prog 28 #[.int .i64 n, .int .i64 d, PV 1 s g l x] W fun r w' => r = .returned (.tuple #[A4 R, .int .i64 F, .int .i64 E]) ∧ Below W.heap.size W w') :
    Calls Tryz.prog 16 #[.int .i64 n, .int .i64 d, PV c s g l x] w fun r w' => r = .returned (.tuple #[A4 R, .int .i64 F, .int .i64 E]) ∧ Below w.heap.size w w' := by
  subst hc
  have hsm := cell_set_map
  unfold PV at *
  go_enter Tryz.func16, Tryz.ntmps16
  go_wp2_with (first
    | (go_at_call 24; refine (c28 _ (hT.go bgo)).mono ?_; rintro r w1 ⟨rfl, hb1⟩; obtain ⟨hc1, hf1⟩ := bcell hb1; have hz1_0 : w.heap.size < w1.heap.size := lt_below hb1 ltg; have hl1_0 := Nat.le_of_lt hz1_0; have hz1_1 : w.heap.size + 1 < w1.heap.size := lt_below hb1 ltg; have hl1_1 := Nat.le_of_lt hz1_1; have hA1 := bnext (w0 := w) bgo hb1; have hs1 := hA1.size; clear hb1)
    | (go_at_call 27; refine (c31 _ bgo).mono ?_; rintro r w2 ⟨rfl, hb2⟩; obtain ⟨hc2, hf2⟩ := bcell hb2; have hz2_0 : w.heap.size < w2.heap.size := lt_below hb2 ltg; have hl2_0 := Nat.le_of_lt hz2_0; have hz2_1 : w.heap.size + 1 < w2.heap.size := lt_below hb2 ltg; have hl2_1 := Nat.le_of_lt hz2_1; have hz2_2 : w1.heap.size < w2.heap.size := lt_below hb2 ltg; have hl2_2 := Nat.le_of_lt hz2_2; have hA2 := bnext (w0 := w) bgo hb2; have hs2 := hA2.size; clear hb2)
    | (go_at_call 28; refine (c32 _ (hT.go bgo)).mono ?_; rintro r w3 ⟨rfl, hb3⟩; obtain ⟨hc3, hf3⟩ := bcell hb3; have hz3_0 : w.heap.size < w3.heap.size := lt_below hb3 ltg; have hl3_0 := Nat.le_of_lt hz3_0; have hz3_1 : w.heap.size + 1 < w3.heap.size := lt_below hb3 ltg; have hl3_1 := Nat.le_of_lt hz3_1; have hz3_2 : w1.heap.size < w3.heap.size := lt_below hb3 ltg; have hl3_2 := Nat.le_of_lt hz3_2; have hA3 := bnext (w0 := w) bgo hb3; have hs3 := hA3.size; clear hb3))
  exact bodyPost_ret (v := .tuple #[A4 R, .int .i64 F, .int .i64 E]) (by simp only [results, Tryz.results16]; go_simp) rfl ⟨rfl, bgo⟩
set_option maxHeartbeats 4000000 in
theorem make_2 (hc : c = 2) (R : Nat) (E : Int) (c34 : ∀ W, Tab W → Calls Tryz.prog 30 #[.int .i64 n, .agg #[.int .i64 2, .bool s, .bool g, .int .i64 0, .int .u64 0, .int .u64 0, .int .u64 0, .int .u64 0]] W fun r w' => r = .returned (.tuple #[A4 R, .int .i64 E]) ∧ Below W.heap.size W w') :
    Calls Tryz.prog 16 #[.int .i64 n, .int .i64 d, PV c s g l x] w fun r w' => r = .returned (.tuple #[A4 R, .int .i64 0, .int .i64 E]) ∧ Below w.heap.size w w' := by
  subst hc
  have hsm := cell_set_map
  unfold PV at *
  go_enter Tryz.func16, Tryz.ntmps16
  go_wp2_with (first
    | (go_at_call 24; refine (c28 _ (hT.go bgo)).mono ?_; rintro r w1 ⟨rfl, hb1⟩; obtain ⟨hc1, hf1⟩ := bcell hb1; have hz1_0 : w.heap.size < w1.heap.size := lt_below hb1 ltg; have hl1_0 := Nat.le_of_lt hz1_0; have hz1_1 : w.heap.size + 1 < w1.heap.size := lt_below hb1 ltg; have hl1_1 := Nat.le_of_lt hz1_1; have hA1 := bnext (w0 := w) bgo hb1; have hs1 := hA1.size; clear hb1)
    | (go_at_call 27; refine (c31 _ bgo).mono ?_; rintro r w2 ⟨rfl, hb2⟩; obtain ⟨hc2, hf2⟩ := bcell hb2; have hz2_0 : w.heap.size < w2.heap.size := lt_below hb2 ltg; have hl2_0 := Nat.le_of_lt hz2_0; have hz2_1 : w.heap.size + 1 < w2.heap.size := lt_below hb2 ltg; have hl2_1 := Nat.le_of_lt hz2_1; have hz2_2 : w1.heap.size < w2.heap.size := lt_below hb2 ltg; have hl2_2 := Nat.le_of_lt hz2_2; have hA2 := bnext (w0 := w) bgo hb2; have hs2 := hA2.size; clear hb2)
    | (go_at_call 30; refine (c34 _ (hT.go bgo)).mono ?_; rintro r w3 ⟨rfl, hb3⟩; obtain ⟨hc3, hf3⟩ := bcell hb3; have hz3_0 : w.heap.size < w3.heap.size := lt_below hb3 ltg; have hl3_0 := Nat.le_of_lt hz3_0; have hz3_1 : w.heap.size + 1 < w3.heap.size := lt_below hb3 ltg; have hl3_1 := Nat.le_of_lt hz3_1; have hz3_2 : w1.heap.size < w3.heap.size := lt_below hb3 ltg; have hl3_2 := Nat.le_of_lt hz3_2; have hz3_3 : w2.heap.size < w3.heap.size := lt_below hb3 ltg; have hl3_3 := Nat.le_of_lt hz3_3; have hA3 := bnext (w0 := w) bgo hb3; have hs3 := hA3.size; clear hb3))
  exact bodyPost_ret (v := .tuple #[A4 R, .int .i64 0, .int .i64 E]) (by simp only [results, Tryz.results16]; go_simp) rfl ⟨rfl, bgo⟩
set_option maxHeartbeats 4000000 in
theorem make_3 (hc : c = 3) (P R : Nat) (E : Int) (c33 : ∀ W, Calls Tryz.prog 29 #[DI n nm wd f e lo m, PV 3 s g l x] W fun r w' => r = .returned (A4 P) ∧ Below W.heap.size W w')
    (c34 : ∀ W, Tab W → Calls Tryz.prog 30 #[.int .i64 n, DV 3 s g 0 P] W fun r w' => r = .returned (.tuple #[A4 R, .int .i64 E]) ∧ Below W.heap.size W w') :
    Calls Tryz.prog 16 #[.int .i64 n, .int .i64 d, PV c s g l x] w fun r w' => r = .returned (.tuple #[A4 R, .int .i64 0, .int .i64 E]) ∧ Below w.heap.size w w' := by
  subst hc
  have hsm := cell_set_map
  unfold PV at *
  go_enter Tryz.func16, Tryz.ntmps16
  go_wp2_with (first
    | (go_at_call 24; refine (c28 _ (hT.go bgo)).mono ?_; rintro r w1 ⟨rfl, hb1⟩; obtain ⟨hc1, hf1⟩ := bcell hb1; have hz1_0 : w.heap.size < w1.heap.size := lt_below hb1 ltg; have hl1_0 := Nat.le_of_lt hz1_0; have hz1_1 : w.heap.size + 1 < w1.heap.size := lt_below hb1 ltg; have hl1_1 := Nat.le_of_lt hz1_1; have hA1 := bnext (w0 := w) bgo hb1; have hs1 := hA1.size; clear hb1)
    | (go_at_call 27; refine (c31 _ bgo).mono ?_; rintro r w2 ⟨rfl, hb2⟩; obtain ⟨hc2, hf2⟩ := bcell hb2; have hz2_0 : w.heap.size < w2.heap.size := lt_below hb2 ltg; have hl2_0 := Nat.le_of_lt hz2_0; have hz2_1 : w.heap.size + 1 < w2.heap.size := lt_below hb2 ltg; have hl2_1 := Nat.le_of_lt hz2_1; have hz2_2 : w1.heap.size < w2.heap.size := lt_below hb2 ltg; have hl2_2 := Nat.le_of_lt hz2_2; have hA2 := bnext (w0 := w) bgo hb2; have hs2 := hA2.size; clear hb2)
    | (go_at_call 29; refine (c33 _).mono ?_; rintro r w3 ⟨rfl, hb3⟩; obtain ⟨hc3, hf3⟩ := bcell hb3; have hz3_0 : w.heap.size < w3.heap.size := lt_below hb3 ltg; have hl3_0 := Nat.le_of_lt hz3_0; have hz3_1 : w.heap.size + 1 < w3.heap.size := lt_below hb3 ltg; have hl3_1 := Nat.le_of_lt hz3_1; have hz3_2 : w1.heap.size < w3.heap.size := lt_below hb3 ltg; have hl3_2 := Nat.le_of_lt hz3_2; have hz3_3 : w2.heap.size < w3.heap.size := lt_below hb3 ltg; have hl3_3 := Nat.le_of_lt hz3_3; have hA3 := bnext (w0 := w) bgo hb3; have hs3 := hA3.size; clear hb3)
    | (go_at_call 30; refine (c34 _ (hT.go bgo)).mono ?_; rintro r w4 ⟨rfl, hb4⟩; obtain ⟨hc4, hf4⟩ := bcell hb4; have hz4_0 : w.heap.size < w4.heap.size := lt_below hb4 ltg; have hl4_0 := Nat.le_of_lt hz4_0; have hz4_1 : w.heap.size + 1 < w4.heap.size := lt_below hb4 ltg; have hl4_1 := Nat.le_of_lt hz4_1; have hz4_2 : w1.heap.size < w4.heap.size := lt_below hb4 ltg; have hl4_2 := Nat.le_of_lt hz4_2; have hz4_3 : w2.heap.size < w4.heap.size := lt_below hb4 ltg; have hl4_3 := Nat.le_of_lt hz4_3; have hA4 := bnext (w0 := w) bgo hb4; have hs4 := hA4.size; clear hb4))
  exact bodyPost_ret (v := .tuple #[A4 R, .int .i64 0, .int .i64 E]) (by simp only [results, Tryz.results16]; go_simp) rfl ⟨rfl, bgo⟩
end
end Go.Proofs.YtpfnfaekgaipjaaGreatDoor

namespace Go.Proofs.YtpfnfaekgaipjaaGreatDoor
open Go.RowKit

theorem val_odd {z : Nat → Int} {k V : Nat} (hk : 0 < k) (hv : val z k = (V : Int)) : (V : Int) % 2 = z 0 % 2 := by
  have key : ∀ j, val z (j + 1) % 2 = z 0 % 2 := by
    intro j
    induction j with
    | zero => simp [val]
    | succ j ih =>
      have : val z (j + 1 + 1) = val z (j + 1) + z (j + 1) * 18446744073709551616 ^ (j + 1) := rfl
      rw [this, Int.pow_succ, show z (j + 1) * (18446744073709551616 ^ j * 18446744073709551616) = 2 * (z (j + 1) * 18446744073709551616 ^ j * 9223372036854775808) by grind, Int.add_mul_emod_self_left]
      exact ih
  obtain ⟨j, rfl⟩ : ∃ j, k = j + 1 := ⟨k - 1, by omega⟩
  rw [← hv]; exact key j
attribute [local irreducible] NV NT
end Go.Proofs.YtpfnfaekgaipjaaGreatDoor

namespace Go.Proofs.YtpfnfaekgaipjaaGreatDoor
open Go.RowKit

/-- a block holds four words of a number, from a place on -/
structure Four (w : World) (g o k : Nat) : Prop where
  cell : ∀ i, i < 4 → w.cell? ⟨g, o + i, none⟩ = some (.int .u64 (W4 k i))
theorem Four.of {w : World} {g o k : Nat} (h0 : w.cell? ⟨g, o + 0, none⟩ = some (.int .u64 (W4 k 0))) (h1 : w.cell? ⟨g, o + 1, none⟩ = some (.int .u64 (W4 k 1))) (h2 : w.cell? ⟨g, o + 2, none⟩ = some (.int .u64 (W4 k 2))) (h3 : w.cell? ⟨g, o + 3, none⟩ = some (.int .u64 (W4 k 3))) : Four w g o k :=
  ⟨fun i hi => by
    have : i = 0 ∨ i = 1 ∨ i = 2 ∨ i = 3 := by omega
    rcases this with rfl | rfl | rfl | rfl <;> assumption⟩
theorem Four.next {w w' : World} {g o k : Nat} (h : Four w g o k) (hg : g < w.heap.size) (hb : Below w.heap.size w w') : Four w' g o k :=
  ⟨fun i hi => by rw [hb.cell (p := ⟨g, o + i, none⟩) hg]; exact h.cell i hi⟩
/-- a block holds a datum -/
structure Dc (w : World) (g : Nat) (c : Int) (s b : Bool) (x : Int) (k : Nat) : Prop where
  c0 : w.cell? ⟨g, 0, none⟩ = some (.int .i64 c)
  c1 : w.cell? ⟨g, 1, none⟩ = some (.bool s)
  c2 : w.cell? ⟨g, 2, none⟩ = some (.bool b)
  c3 : w.cell? ⟨g, 3, none⟩ = some (.int .i64 x)
  c4 : w.cell? ⟨g, 4, none⟩ = some (.int .u64 (W4 k 0))
  c5 : w.cell? ⟨g, 5, none⟩ = some (.int .u64 (W4 k 1))
  c6 : w.cell? ⟨g, 6, none⟩ = some (.int .u64 (W4 k 2))
  c7 : w.cell? ⟨g, 7, none⟩ = some (.int .u64 (W4 k 3))
theorem Dc.next {w w' : World} {g : Nat} {c : Int} {s b : Bool} {x : Int} {k : Nat} (h : Dc w g c s b x k) (hg : g < w.heap.size) (hb : Below w.heap.size w w') : Dc w' g c s b x k :=
  ⟨by rw [hb.cell (p := ⟨g, 0, none⟩) hg, h.c0], by rw [hb.cell (p := ⟨g, 1, none⟩) hg, h.c1], by rw [hb.cell (p := ⟨g, 2, none⟩) hg, h.c2], by rw [hb.cell (p := ⟨g, 3, none⟩) hg, h.c3],
   by rw [hb.cell (p := ⟨g, 4, none⟩) hg, h.c4], by rw [hb.cell (p := ⟨g, 5, none⟩) hg, h.c5], by rw [hb.cell (p := ⟨g, 6, none⟩) hg, h.c6], by rw [hb.cell (p := ⟨g, 7, none⟩) hg, h.c7]⟩
/-- what stands in the words below i -/
def mo (A B i : Nat) : Bool := decide (val (W4 B) i < val (W4 A) i)
attribute [local irreducible] W4 mo
end Go.Proofs.YtpfnfaekgaipjaaGreatDoor

namespace Go.Proofs.YtpfnfaekgaipjaaGreatDoor
open Go.RowKit

theorem DV_zero (c : Int) (s g : Bool) (x : Int) : DV c s g x 0 = .agg #[.int .i64 c, .bool s, .bool g, .int .i64 x, .int .u64 0, .int .u64 0, .int .u64 0, .int .u64 0] := by
  unfold DV; simp only [W4_zero]
attribute [local irreducible] W4 NT NV Nt
end Go.Proofs.YtpfnfaekgaipjaaGreatDoor

namespace Go.Proofs.YtpfnfaekgaipjaaGreatDoor
open Go.RowKit

theorem NT.tight {K K' V : Nat} {v : Value} {w : World} (h : NT K V v w) (hb : bl V ≤ 64 * K') : NT K' V v w := by
  obtain ⟨g, k, cap, z, h1, h2, h3, h4, h5⟩ := h
  exact ⟨g, k, cap, z, h1, by have := (size_bl (m := K') h3.2.2.1 h4).2 hb; omega, h3, h4, h5⟩
attribute [local irreducible] W4 NT NV
end Go.Proofs.YtpfnfaekgaipjaaGreatDoor

namespace Go.Proofs.YtpfnfaekgaipjaaGreatDoor
open Go.RowKit

section
variable {P : Program} {ops : Array Oper} {Q : Exit → Act → World → Prop} {md : Region.Mode}
theorem listed_set {listed : Array Bool} {i : Nat} (hi : i < listed.size) : (fun j => (listed.setIfInBounds i true).getD j false = true) = (fun j => listed.getD j false = true ∨ j = i) := by
  funext j
  apply propext
  by_cases e : j = i
  · subst e
    simp [hi]
  · rw [getD_set_ne false (fun h => e h.symm)]
    simp [e]
/-- 'B L a w': what stands where just the operations of L are done -/
theorem wpAny_inv3 {n : Nat} {B : (Nat → Prop) → Act → World → Prop} {tail : List Oper} (hs : Region.sinkB md ops n = true) (hc : Region.chainB md ops n = true) (hn : n < ops.size) (hb : backB md ops n = true)
    (htl : ∀ j, tail[j]? = ops[n + j]?) (hseq : Region.seqB md ops tail.length n (headDone n ops.size) = true)
    (hstep : ∀ (L : Nat → Prop) i o a w, i < n → ops[i]? = some o → ¬ L i → (∀ j oj, ops[j]? = some oj → L j → ∀ e ∈ oj.after, Region.binds md e = true → L e.on) → (∀ e ∈ o.after, Region.binds md e = true → L e.on) → B L a w → wpOp P ops Q i (fun a' w' => B (fun j => L j ∨ j = i) a' w') a w)
    (hend : ∀ (L : Nat → Prop) a w, (∀ i, i < n → L i) → B L a w → wpList P ops Q tail a w) :
    ∀ (f : Nat) (listed : Array Bool) (a : Act) (w : World), HeadInv md ops n listed → toCome listed n = f → B (fun j => listed.getD j false = true) a w → wpAny P md ops Q (f + tail.length) listed a w
  | 0, listed, a, w, inv, hf, hB => by
    have hz := toCome_zero n hf
    have he := headDone_eq (Nat.le_of_lt hn) inv hz
    have hw := hend _ a w (fun i hi => getD_true_in (by rw [inv.size]; omega) (hz i hi)) hB
    rw [Nat.zero_add, he]
    exact wpAny_of_seq tail n _ a w htl hseq hw
  | f + 1, listed, a, w, inv, hf, hB => by
    obtain ⟨k, hk, hku, hkl⟩ := toCome_least (listed := listed) n (by omega)
    rw [show f + 1 + tail.length = (f + tail.length) + 1 by omega]
    refine ⟨fun h0 => ?_, fun i hi => ?_⟩
    · obtain ⟨o, ho, hlt⟩ := backB_spec hb k hk
      have : k ∈ Region.ready md ops listed := mem_ready.2 ⟨hku, o, ho, fun e he hbd => by
        have := hlt e he hbd
        exact getD_true_in (by rw [inv.size]; omega) (hkl _ this)⟩
      rw [h0] at this; cases this
    · have hin : i < n := by
        rcases Nat.lt_or_ge i n with h | h
        · exact h
        · exact absurd hi (tail_waits hs hc hn inv _ k rfl hk hku i h)
      obtain ⟨hu, o, ho, hall⟩ := mem_ready.1 hi
      refine wpOp_mono (fun a' w' h3 => ?_) (hstep (fun j => listed.getD j false = true) i o a w hin ho (by show ¬ (listed.getD i false = true); rw [getD_both hu]; decide) inv.closed hall hB)
      refine wpAny_inv3 hs hc hn hb htl hseq hstep hend f _ a' w' (inv.set hi hin) (by have := toCome_set hu n hin; omega) ?_
      rw [listed_set (by rw [inv.size]; omega)]
      exact h3
theorem wp_region_inv3 (n : Nat) (B : (Nat → Prop) → Act → World → Prop) {id : Nat} {l : List Oper} {a : Act} {w : World} (hm : P.follows .mixedOrders = true) (hI : invB .any l.toArray n = true)
    (h0 : B (fun _ => False) a w.drew)
    (hstep : ∀ (L : Nat → Prop) i o a w, i < n → l[i]? = some o → ¬ L i → (∀ j oj, l[j]? = some oj → L j → ∀ e ∈ oj.after, Region.binds .any e = true → L e.on) → (∀ e ∈ o.after, Region.binds .any e = true → L e.on) → B L a w → wpOp P l.toArray Q i (fun a' w' => B (fun j => L j ∨ j = i) a' w') a w)
    (hend : ∀ (L : Nat → Prop) a w, (∀ i, i < n → L i) → B L a w → wpList P l.toArray Q (l.drop n) a w) : (Code.region id l.toArray true).wp P Q a w := by
  simp only [invB, Bool.and_eq_true, decide_eq_true_eq] at hI
  obtain ⟨⟨⟨⟨hs, hc⟩, hn⟩, hb⟩, hseq⟩ := hI
  have hdl : (l.drop n).length = l.toArray.size - n := by simp
  refine wp_region_any hm ?_
  have hf0 : (fun j => (Array.replicate l.toArray.size false).getD j false = true) = fun _ => False := by
    funext j
    rw [getD_replicate_false]
    simp
  have H := wpAny_inv3 (P := P) (Q := Q) (md := .any) (ops := l.toArray) (n := n) (B := B) (tail := l.drop n) hs hc hn hb (fun j => by simp [List.getElem?_drop]) (by rw [hdl]; exact hseq)
    (fun L i o a w hi ho hL hcl he hB => hstep L i o a w hi (by simpa using ho) hL (fun j oj hj => hcl j oj (by simpa using hj)) he hB) hend n (Array.replicate l.toArray.size false) a w.drew
    ⟨by simp, fun j oj _ hl => (by rw [getD_replicate_false] at hl; cases hl), fun t _ ht => getD_in (by simpa using ht) (getD_replicate_false _ _)⟩
    (toCome_replicate _ n (by simpa using Nat.le_of_lt hn)) (by rw [hf0]; exact h0)
  rw [hdl] at H
  have : n + (l.toArray.size - n) = l.toArray.size := by omega
  rw [this] at H
  exact H
end
end Go.Proofs.YtpfnfaekgaipjaaGreatDoor

namespace Go.Proofs.YtpfnfaekgaipjaaGreatDoor
open Go.RowKit

section
variable {H : Type} {enc : TypeId × Value → H} {W : World} {base : Nat} {sp : Nat → Bool} {held : Bool}
theorem u59 : ∃ a b c d, Tryz.prog.underlying 106 = some (.struct #[a, b, c, d]) ∧ a.offset = 0 ∧ b.offset = 1 ∧ c.offset = 2 ∧ d.offset = 3 ∧ a.type = 9 ∧ b.type = 3 ∧ c.type = 3 ∧ d.type = 3 :=
  ⟨_, _, _, _, Tryz.underlying106, rfl, rfl, rfl, rfl, rfl, rfl, rfl, rfl⟩
theorem c9 : Tryz.prog.cellsOf 9 = 1 := by kernel_rfl
theorem c3 : Tryz.prog.cellsOf 3 = 1 := by kernel_rfl
theorem c59 : Tryz.prog.cellsOf 106 = 4 := by kernel_rfl
theorem c60 : Tryz.prog.cellsOf 107 = 48 := by kernel_rfl
theorem u60 : Tryz.prog.underlying 107 = some (.array 12 106) := by kernel_rfl
theorem row_cells {fuel : Nat} {cs : List Value} {nm : List UInt8} {a b c : Int} {p : DataW H × List MemPlace} (hp : p.1 = .agg [.lit (.string nm), .lit (.int .i64 a), .lit (.int .i64 b), .lit (.int .i64 c)])
    (h : DataW.trod enc Tryz.prog W base sp held fuel 106 cs = some p) : cs = [.string ⟨nm.toArray⟩, .int .i64 a, .int .i64 b, .int .i64 c] := by
  obtain ⟨f0, f1, f2, f3, hu, o0, o1, o2, o3, t0, t1, t2, t3⟩ := u59
  obtain ⟨y0, y1, y2, y3, n, rfl, hl, h0, h1, h2, h3⟩ := Joins.trod_struct4 hu h
  rw [o0, t0, c9] at h0
  rw [o1, t1, c3] at h1
  rw [o2, t2, c3] at h2
  rw [o3, t3, c3] at h3
  obtain ⟨s, hs, rfl, _⟩ := DataW.trod_string Tryz.underlying9 h0
  obtain ⟨z1, hz1, rfl, _⟩ := DataW.trod_int Tryz.underlying3 h1
  obtain ⟨z2, hz2, rfl, _⟩ := DataW.trod_int Tryz.underlying3 h2
  obtain ⟨z3, hz3, rfl, _⟩ := DataW.trod_int Tryz.underlying3 h3
  simp only [DataW.agg.injEq, List.cons.injEq, DataW.lit.injEq, Lit.string.injEq, Lit.int.injEq, true_and, and_true] at hp
  obtain ⟨rfl, rfl, rfl, rfl⟩ := hp
  rw [c59] at hl
  match cs, hl with
  | [v0, v1, v2, v3], _ =>
    simp at hs hz1 hz2 hz3
    subst hs hz1 hz2 hz3
    rfl
theorem row_at {cs : List Value} {i : Nat} {v0 v1 v2 v3 : Value} (h : (cs.drop (i * 4)).take 4 = [v0, v1, v2, v3]) : cs[i * 4]? = some v0 ∧ cs[i * 4 + 1]? = some v1 ∧ cs[i * 4 + 2]? = some v2 ∧ cs[i * 4 + 3]? = some v3 := by
  have g : ∀ k, k < 4 → cs[i * 4 + k]? = [v0, v1, v2, v3][k]? := fun k hk => by
    rw [← h, List.getElem?_take_of_lt hk, List.getElem?_drop]
  exact ⟨g 0 (by decide), g 1 (by decide), g 2 (by decide), g 3 (by decide)⟩
theorem tab_of_trod {fuel : Nat} {cs : List Value} {p : List MemPlace} (h : DataW.trod enc Tryz.prog W base sp held fuel 107 cs = some (Rows.laid_caliper_desc_rows, p)) :
    ∀ i k, i < 12 → k < 4 → cs[i * 4 + k]? = some (rowV i k) := by
  cases fuel with
  | zero => simp [DataW.trod] at h
  | succ fuel =>
    simp only [DataW.trod, u60, c59, c60] at h
    split at h
    · rename_i hl
      obtain ⟨xs, hm, hx⟩ := Option.map_eq_some_iff.1 h
      have hxs := congrArg Prod.fst hx
      simp only [Rows.laid_caliper_desc_rows, DataW.agg.injEq] at hxs
      intro i k hi hk
      obtain ⟨b, hb, hf⟩ := Lib.mapM_at hm i i (by simp [hi])
      have hd : (xs.map (·.1))[i]? = some b.1 := by simp [hb]
      rw [hxs] at hd
      have key : ∀ (nm : List UInt8) (x y z : Int), b.1 = .agg [.lit (.string nm), .lit (.int .i64 x), .lit (.int .i64 y), .lit (.int .i64 z)] → cs[i * 4]? = some (.string ⟨nm.toArray⟩) ∧ cs[i * 4 + 1]? = some (.int .i64 x) ∧ cs[i * 4 + 2]? = some (.int .i64 y) ∧ cs[i * 4 + 3]? = some (.int .i64 z) :=
        fun nm x y z e => row_at (row_cells e hf)
      have hk' : k = 0 ∨ k = 1 ∨ k = 2 ∨ k = 3 := by omega
      have hi' : i = 0 ∨ i = 1 ∨ i = 2 ∨ i = 3 ∨ i = 4 ∨ i = 5 ∨ i = 6 ∨ i = 7 ∨ i = 8 ∨ i = 9 ∨ i = 10 ∨ i = 11 := by omega
      rcases hi' with rfl | rfl | rfl | rfl | rfl | rfl | rfl | rfl | rfl | rfl | rfl | rfl
      all_goals
        obtain ⟨q0, q1, q2, q3⟩ := key _ _ _ _ (Option.some.inj hd).symm
        rcases hk' with rfl | rfl | rfl | rfl
        · exact q0
        · exact q1
        · exact q2
        · exact q3
    · cases h
end
theorem tab_of_laid {W : World} {rest : List (String × DataW Unit)} (h : laidMet Tryz.prog (("caliper/desc.rows", Rows.laid_caliper_desc_rows) :: rest) W) : Tab W := by
  obtain ⟨ps, ⟨g', t', cs, fuel, p, q, hg', ht', hvar, hd, _, _⟩, _⟩ := h
  have hg : Tryz.prog.globalNamed "caliper/desc.rows" = some 2 := by kernel_rfl
  have hty : (Tryz.prog.globals[2]?).map (·.type) = some 107 := by kernel_rfl
  obtain rfl := Option.some.inj (hg.symm.trans hg')
  obtain rfl := Option.some.inj (hty.symm.trans ht')
  have hc := tab_of_trod hd
  have hcell : ∀ i k, i < 12 → k < 4 → W.cell? ⟨2, i * 4 + k, none⟩ = some (rowV i k) := fun i k hi hk => by
    have := World.var?_cell hg hvar (i * 4 + k)
    rw [this, ← hc i k hi hk]
    simp
  refine ⟨?_, hcell⟩
  have h0 := hcell 0 0 (by decide) (by decide)
  by_cases hz : 2 < W.heap.size
  · exact hz
  · have : W.heap[2]? = none := Array.getElem?_eq_none (by omega)
    simp [World.cell?, this] at h0
end Go.Proofs.YtpfnfaekgaipjaaGreatDoor

namespace Go.Proofs.YtpfnfaekgaipjaaGreatDoor
open Go.RowKit

theorem A4_self (B : Nat) (w : World) : Sem.run Tryz.prog (Op.equalIn 10000 24 (A4 B) (A4 B)) w = .ok true w := by
  have := eq24 (W4 B 0) (W4 B 1) (W4 B 2) (W4 B 3) (W4 B 0) (W4 B 1) (W4 B 2) (W4 B 3) w
  rw [decide_eq_true ⟨rfl, rfl, rfl, rfl⟩] at this
  exact this
attribute [local irreducible] W4 Nt
end Go.Proofs.YtpfnfaekgaipjaaGreatDoor

namespace Go.Proofs.YtpfnfaekgaipjaaGreatDoor
open Go.RowKit

/-- a number without noughts ahead -/
theorem dV_ge {l : List UInt8} (hd : l.all dg = true) (h0 : by_ l 0 ≠ 48) (hl : l ≠ []) : 10 ^ (l.length - 1) ≤ dV l := by
  cases l with
  | nil => exact absurd rfl hl
  | cons c r =>
    have hr : r.all dg = true := by rw [List.all_cons] at hd; simp at hd; simpa using hd.2
    have hc : dg c = true := by rw [List.all_cons] at hd; simp at hd; exact hd.1
    unfold dg at hc
    have hc' := of_decide_eq_true hc
    rw [by_zero] at h0
    have h := numV_app (s := B (c :: r)) (u := B r) 1 (B r).size (fun i hi => by rw [sb_by, sb_by, Nat.add_comm, by_succ])
    have hs : (B (c :: r)).size = 1 + (B r).size := by rw [B_size, B_size, List.length_cons]; omega
    have h1 : numV (B (c :: r)) 1 = (c.toNat : Int) - 48 := by
      have : numV (B (c :: r)) 1 = numV (B (c :: r)) 0 * 10 + (sb (B (c :: r)) 0 - 48) := rfl
      rw [this, sb_by, by_zero]
      have : numV (B (c :: r)) 0 = 0 := rfl
      omega
    have hb := (numV_bd _ (dig_B hr)).1
    have e := (dV_lt hd).2
    rw [hs, h, h1] at e
    rw [B_size] at e hb
    have hp : ((10 : Int) ^ r.length) = ((10 ^ r.length : Nat) : Int) := by simp
    rw [hp] at e
    show 10 ^ (r.length + 1 - 1) ≤ _
    rw [Nat.add_sub_cancel]
    have hm : 1 * ((10 ^ r.length : Nat) : Int) ≤ ((c.toNat : Int) - 48) * ((10 ^ r.length : Nat) : Int) := Int.mul_le_mul_of_nonneg_right (by omega) (Int.natCast_nonneg _)
    omega
theorem dV_nil : dV [] = 0 := rfl
theorem bin_true {n : Int} (hb : binN n) (W : World) : Calls Tryz.prog 15 #[.int .i64 n] W fun r w' => r = .returned (.bool true) ∧ W = w' := by
  have := rbinary_any n W
  rw [decide_eq_true hb] at this
  exact this.mono fun _ _ ⟨h1, h2⟩ => ⟨h1, h2.symm⟩
theorem dir_true {d : Int} (hk : knB d) (W : World) : Calls Tryz.prog 7 #[.int .i64 d] W fun r w' => r = .returned (.bool true) ∧ W = w' := by
  have := rdir_any d W
  rw [decide_eq_true hk] at this
  exact this
theorem pl_isD {f : Nat} {l m : Int} (s g : Bool) (A : Nat) (hf : 2 ≤ f) : isD f l m ⟨3, s, g, 0, plV f g A⟩ := by
  refine Or.inr (Or.inr ⟨rfl, rfl, ?_, ?_⟩)
  · show plV f g A < 2 ^ (f - 1)
    have h : plA f A < 2 ^ (f - 1) := by
      unfold plA
      split
      · exact Nat.two_pow_pos _
      · rename_i h
        exact bl_le.1 (by omega)
    unfold plV
    split
    · exact Nat.one_lt_two_pow (by omega)
    · exact h
  · show plV f g A ≠ 0 ∨ g = false
    cases g
    · exact Or.inr rfl
    · left
      unfold plV
      split
      · decide
      · rename_i h
        intro h2
        exact h ⟨rfl, h2⟩
theorem fN_ge {n : Int} (hb : binN n) : 2 ≤ fN n := by
  rcases bin_cases hb with rfl | rfl | rfl | rfl | rfl | rfl <;> decide
end Go.Proofs.YtpfnfaekgaipjaaGreatDoor

namespace Go.Proofs.YtpfnfaekgaipjaaGreatDoor
open Go.RowKit

theorem tenth_A : A4 1036831949 = .agg #[.int .u64 1036831949, .int .u64 0, .int .u64 0, .int .u64 0] := by
  unfold A4; rw [show W4 1036831949 0 = 1036831949 by decide, show W4 1036831949 1 = 0 by decide, show W4 1036831949 2 = 0 by decide, show W4 1036831949 3 = 0 by decide]
attribute [local irreducible] W4
section
variable (n d : Int) (l : List UInt8) (q : Prt) (nm : ByteArray) (wd : Int) (f e : Nat) (lo m : Int) (w : World)
set_option maxHeartbeats 2000000 in
theorem read_k (hT : Tab w) (V : Nat) (F E : Int) (c28 : ∀ W, Tab W → Calls Tryz.prog 24 #[.int .i64 n, .int .i64 d] W fun r w' => r = .returned (.tuple #[DI n nm wd f e lo m, .int .i64 0]) ∧ Below W.heap.size W w')
    (c29 : ∀ W, Calls Tryz.prog 25 #[.string (B l)] W fun r w' => r = .returned (.tuple #[PV q.cls q.sg q.sn q.dig q.ex, .int .i64 0]) ∧ Below W.heap.size W w')
    (c12 : ∀ W, Below w.heap.size w W → Calls Tryz.prog 16 #[.int .i64 n, .int .i64 d, PV q.cls q.sg q.sn q.dig q.ex] W fun r w' => r = .returned (.tuple #[A4 V, .int .i64 F, .int .i64 E]) ∧ Below W.heap.size W w') :
    Calls Tryz.prog 13 #[.int .i64 n, .int .i64 d, .string (B l)] w fun r w' => r = .returned (.tuple #[A4 V, .int .i64 F, .int .i64 E]) ∧ Below w.heap.size w w' := by
  have hsm := cell_set_map
  unfold PV at *
  go_enter Tryz.func13, Tryz.ntmps13
  go_wp2_with (first
    | (go_at_call 24; refine (c28 _ (hT.go bgo)).mono ?_; rintro r w1 ⟨rfl, hb1⟩; obtain ⟨hc1, hf1⟩ := bcell hb1; have hz1_0 : w.heap.size < w1.heap.size := lt_below hb1 ltg; have hl1_0 := Nat.le_of_lt hz1_0; have hA1 := bnext (w0 := w) bgo hb1; have hs1 := hA1.size; clear hb1)
    | (go_at_call 25; refine (c29 _).mono ?_; rintro r w2 ⟨rfl, hb2⟩; obtain ⟨hc2, hf2⟩ := bcell hb2; have hz2_0 : w.heap.size < w2.heap.size := lt_below hb2 ltg; have hl2_0 := Nat.le_of_lt hz2_0; have hz2_1 : w1.heap.size < w2.heap.size := lt_below hb2 ltg; have hl2_1 := Nat.le_of_lt hz2_1; have hA2 := bnext (w0 := w) bgo hb2; have hs2 := hA2.size; clear hb2)
    | (go_at_call 16; refine (c12 _ bgo).mono ?_; rintro r w3 ⟨rfl, hb3⟩; obtain ⟨hc3, hf3⟩ := bcell hb3; have hz3_0 : w.heap.size < w3.heap.size := lt_below hb3 ltg; have hl3_0 := Nat.le_of_lt hz3_0; have hz3_1 : w1.heap.size < w3.heap.size := lt_below hb3 ltg; have hl3_1 := Nat.le_of_lt hz3_1; have hz3_2 : w2.heap.size < w3.heap.size := lt_below hb3 ltg; have hl3_2 := Nat.le_of_lt hz3_2; have hA3 := bnext (w0 := w) bgo hb3; have hs3 := hA3.size; clear hb3))
  exact bodyPost_ret (v := .tuple #[A4 V, .int .i64 F, .int .i64 E]) (by simp only [results, Tryz.results13]; go_simp) rfl ⟨rfl, bgo⟩
variable (c22 : ∀ W, Calls Tryz.prog 15 #[.int .i64 n] W fun r w' => r = .returned (.bool true) ∧ W = w')
include c22
variable (c15 : ∀ W, Calls Tryz.prog 7 #[.int .i64 d] W fun r w' => r = .returned (.bool true) ∧ W = w')
include c15
end
theorem cut_ex {l : List UInt8} {p : Prt} (h : cutP l = some p) : -9223372036854775808 ≤ p.ex ∧ p.ex ≤ 9223372036854775807 := by
  rcases (cut_good h).2 with ⟨_, _, h⟩ | h | h
  · omega
  · obtain ⟨_, _, _, h⟩ := h
    omega
  · obtain ⟨_, h⟩ := h
    omega
theorem tenth_ld : ld 1 5 = -3 := by
  have e1 : bl 1 = 1 := bl_eq (by decide) (by decide)
  have e3 : bl 5 = 3 := bl_eq (by decide) (by decide)
  unfold ld
  rw [e1, e3]
  decide
theorem tenth_X : rX 3 1 5 (-1) = -1 := by unfold rX; rw [tenth_ld]; decide
theorem tenth_Q : rQ 3 1 5 (-1) = -27 := by unfold rQ; rw [tenth_ld, tenth_X]; decide
theorem tenth_C : rC 3 0 false 1 5 (-1) = 13421773 := by unfold rC; rw [tenth_X, tenth_Q]; decide
theorem tenth_bl : bl 13421773 = 24 := bl_eq (by decide) (by decide)
theorem tenth_V : rdV 3 0 false 1 5 (-1) = 1036831949 := by
  unfold rdV rQ' rC'
  rw [tenth_C, tenth_bl, tenth_Q]
  decide
theorem tenth_F : rdF 3 0 false 1 5 (-1) = 8 := by
  unfold rdF rQ'
  rw [tenth_C, tenth_bl, tenth_Q, tenth_X, tenth_ld]
  decide
theorem tenth_cut : cutE [48, 46, 49] = 0 ∧ cutV [48, 46, 49] = ⟨1, false, false, [49], -1⟩ := by
  have h : cutP [48, 46, 49] = some ⟨1, false, false, [49], -1⟩ := by kernel_rfl
  exact cutE_some h
theorem tenth_jn : jnP ⟨1, false, false, [49], -1⟩ := by
  refine jn_of_gd ⟨Or.inr ⟨by decide, by decide⟩, Or.inl ⟨rfl, rfl, by decide, of_decide_eq_true (by kernel_rfl)⟩⟩
theorem read_tenth (W : World) (hT : Tab W) (hT10 : Tb10 W) : Calls Tryz.prog 13 #[.int .i64 3, .int .i64 0, .string (B [48, 46, 49])] W fun r w' => r = .returned (.tuple #[A4 1036831949, .int .i64 8, .int .i64 0]) ∧ Below W.heap.size W w' := by
  have hg : binN 3 ∧ knB 0 := ⟨by decide, by decide⟩
  have c29 := fun W => cut_any [48, 46, 49] W (by decide)
  rw [tenth_cut.1, tenth_cut.2] at c29
  have c32 := fun W' (hT' : Tab W') => finite8 3 0 1 false false [49] (-1) W' hT' hg.1 hg.2 (by decide) (by decide)
  have e1 : tN (dV [49]) (pwE [(49 : UInt8)].length (-1)) = 1 := by decide
  have e2 : tD (pwE [(49 : UInt8)].length (-1)) = 5 := by decide
  have e3 : pwE [(49 : UInt8)].length (-1) = -1 := by decide
  rw [e1, e2, e3, tenth_V, tenth_F] at c32
  exact read_k 3 0 _ ⟨1, false, false, [49], -1⟩ _ _ _ _ _ _ W hT _ _ _ (fun W' hT' => rck_good 3 0 W' hT' hg) c29 (fun W' hW' => make_1 3 0 1 false false [49] (-1) _ _ _ _ _ _ _ W' (hT.go hW') (fun W'' hT'' => rck_good 3 0 W'' hT'' hg) (fun W'' hW'' => join_y ⟨1, false, false, [49], -1⟩ W'' ((hT10.next hW').next hW'') (by decide) tenth_jn) rfl _ _ _ c32)
set_option maxHeartbeats 1000000 in
theorem awake8 (w : World) (hT : Tab w) (hT10 : Tb10 w) : Calls Tryz.prog 5 #[] w fun x w' => x = .returned (.bool true) ∧ Below w.heap.size w w' := by
  have c10 := read_tenth w hT hT10
  rw [tenth_A] at c10
  have h24 := eq24 1036831949 0 0 0 1036831949 0 0 0
  have hsm := cell_set_map
  go_enter Tryz.func5, Tryz.ntmps5
  go_wp2_with (go_at_call 13; refine c10.mono ?_; rintro r w1 ⟨rfl, hb1⟩; obtain ⟨hc1, hf1⟩ := bcell hb1; have hA1 := bnext (w0 := w) bgo hb1; have hs1 := hA1.size; clear hb1)
  go_ret
  exact ⟨by simp, bgo⟩
end Go.Proofs.YtpfnfaekgaipjaaGreatDoor
