/-
  Texts that the proof leans on.
-/
import Derived.Test.YtpemdcnneabbfaaGreatDoorJ43
import Derived.Test.YtpemdcnneabbfaaGreatDoorJ3
import Derived.Test.YtpemdcnneabbfaaGreatDoorJ6
import Derived.Test.YtpemdcnneabbfaaGreatDoorJ41
import Derived.StillTail
import Derived.Below
import Derived.WalkKit
import Derived.Test.YtpemdcnneabbfaaGreatDoorJ36
import Derived.Test.YtpemdcnneabbfaaGreatDoorJ21
import Derived.Test.YtpemdcnneabbfaaGreatDoorJ29
set_option linter.unusedVariables false
set_option linter.unusedSectionVars false
set_option linter.unusedSimpArgs false
set_option maxRecDepth 20000
namespace Go.Proofs.YtpemdcnneabbfaaGreatDoor
open Go.RowKit
section
theorem payload8 (n : Int) (nm : ByteArray) (wd : Int) (f e : Nat) (l m : Int) (c : Int) (s g : Bool) (d : List UInt8) (x : Int) (w : World) (hf : f ≤ 240) (hd : d.all dg = true) (hl : d.length ≤ 4000) :
    Calls Tryz.prog 47 #[DI n nm wd f e l m, PV c s g d x] w fun r w' => r = .returned (A4 (plV f g (dV d))) ∧ Below w.heap.size w w' :=
  payload_w n nm wd f e l m c s g d x (dV d) w hf (fun W => natural8 d W hd hl) (fun W v V h => nlen_v (by decide) h.nt)
theorem five_bl (k : Nat) : bl (5 ^ k) ≤ 3 * k + 1 := by
  refine bl_le.2 ?_
  have h1 : 5 ^ k ≤ 8 ^ k := Nat.pow_le_pow_left (by decide) k
  have h2 : (8 : Nat) ^ k = 2 ^ (3 * k) := by rw [Nat.pow_mul]
  have h3 : (2 : Nat) ^ (3 * k) < 2 ^ (3 * k + 1) := Nat.pow_lt_pow_right (by decide) (by omega)
  omega
theorem bl_mul (a b : Nat) : bl (a * b) ≤ bl a + bl b := by
  refine bl_le.2 ?_
  rw [Nat.pow_add]
  have h1 := bl_le.1 (Nat.le_refl (bl a))
  have h2 := bl_le.1 (Nat.le_refl (bl b))
  exact Nat.mul_lt_mul'' h1 h2
theorem npow5 (m : Nat) (w : World) (hm : m ≤ 12000) : Calls Tryz.prog 87 #[.int .i64 5, .int .i64 (m : Int)] w fun r w' => ∃ v, r = .returned (.tuple #[v, .int .i64 0]) ∧ Nt 2001 (5 ^ m) v w' ∧ Below w.heap.size w w' := by
  refine (npow_any 5 m w (Or.inl rfl) hm).mono fun r w' ⟨g, k, cap, z, e1, hk, hN, hv, hs, hB⟩ => ⟨_, e1, ⟨_, k, cap, z, rfl, hk, hN, ?_⟩, hB⟩
  rw [hv]; simp
theorem nmul_v {A P : Nat} {v v' : Value} {w : World} (h : Nz 251 A v w) (h' : Nt 2001 P v' w) (hA : bl A ≤ 64 * 251) (hP : bl P ≤ 64 * 1500) :
    Calls Tryz.prog 88 #[v, v'] w fun r w' => ∃ q, r = .returned (.tuple #[q, .int .i64 0]) ∧ Nt 2001 (A * P) q w' ∧ Below w.heap.size w w' := by
  obtain ⟨a, k, cap, z, rfl, hk, hN, hv, hs⟩ := h
  obtain ⟨a', k', cap', z', rfl, hk', hN', hv'⟩ := h'
  have s1 := (size_bl (m := 251) hN.2.2.1 hv).2 hA
  have s2 := (size_bl (m := 1500) hN'.2.2.1 hv').2 hP
  have hm : ¬ 2000 < sizeL z k + sizeL z' k' := by omega
  have c := nmul_all a a' k cap k' cap' z z' w (by omega) (by omega) hN hN'
  unfold mulE mulV at c
  rw [if_neg hm, if_neg hm] at c
  refine c.mono fun r w' ⟨o, q, cp, y, e1, hq, hNq, hvq, hsq, hB⟩ => ⟨_, e1, ⟨_, q, cp, y, rfl, by omega, hNq, ?_⟩, hB⟩
  rw [hvq, hv, hv']; simp
attribute [local irreducible] W4 Nz Nt
section
variable (n d : Int) (c : Int) (s g : Bool) (l : List UInt8) (x e : Int) (A P R : Nat) (F E : Int) (w : World) (hT : Tab w) (heb : -20000 ≤ e ∧ e ≤ 20000)
  (c65 : ∀ W, Calls Tryz.prog 85 #[PV c s g l x] W fun r w' => r = .returned (.int .i64 e) ∧ Below W.heap.size W w')
  (c66 : ∀ W, Calls Tryz.prog 86 #[.string (B l)] W fun r w' => ∃ v, r = .returned v ∧ Nz 251 A v w' ∧ Below W.heap.size W w')
include hT heb c65 c66
set_option maxHeartbeats 4000000 in
theorem fin8_neg (he : e < 0)
    (c67 : ∀ W k, k = -e → Calls Tryz.prog 87 #[.int .i64 5, .int .i64 k] W fun r w' => ∃ v, r = .returned (.tuple #[v, .int .i64 0]) ∧ Nt 2001 P v w' ∧ Below W.heap.size W w')
    (c69 : ∀ W v v', Tab W → Nz 251 A v W → Nt 2001 P v' W → Calls Tryz.prog 27 #[.int .i64 n, .int .i64 d, .bool s, v, v', .int .i64 e] W fun r w' => r = .returned (.tuple #[A4 R, .int .i64 F, .int .i64 E]) ∧ Below W.heap.size W w') :
    Calls Tryz.prog 46 #[.int .i64 n, .int .i64 d, PV c s g l x] w fun r w' => r = .returned (.tuple #[A4 R, .int .i64 F, .int .i64 E]) ∧ Below w.heap.size w w' := by
  have hsm := cell_set_map
  unfold PV at *
  go_enter Tryz.func46, Tryz.ntmps46
  go_wp2_with (first
    | (go_at_call 85; refine (c65 _).mono ?_; rintro r w1 ⟨rfl, hb1⟩; obtain ⟨hc1, hf1⟩ := bcell hb1; have hz1_0 : w.heap.size < w1.heap.size := lt_below hb1 ltg; have hl1_0 := Nat.le_of_lt hz1_0; have hz1_1 : w.heap.size + 1 < w1.heap.size := lt_below hb1 ltg; have hl1_1 := Nat.le_of_lt hz1_1; have hA1 := bnext (w0 := w) bgo hb1; have hs1 := hA1.size; clear hb1)
    | (go_at_call 86; refine (c66 _).mono ?_; rintro r w2 ⟨v2, rfl, hv2, hb2⟩; obtain ⟨hc2, hf2⟩ := bcell hb2; have hz2_0 : w.heap.size < w2.heap.size := lt_below hb2 ltg; have hl2_0 := Nat.le_of_lt hz2_0; have hz2_1 : w.heap.size + 1 < w2.heap.size := lt_below hb2 ltg; have hl2_1 := Nat.le_of_lt hz2_1; have hA2 := bnext (w0 := w) bgo hb2; have hs2 := hA2.size; clear hb2)
    | (go_at_call 87; refine (c67 _ _ (by omega)).mono ?_; rintro r w3 ⟨v3, rfl, hv3, hb3⟩; have hv2' := hv2.next ((below1 w2 _).trans (hb3.mono (by simp))); obtain ⟨hc3, hf3⟩ := bcell hb3; have hz3_0 : w.heap.size < w3.heap.size := lt_below hb3 ltg; have hl3_0 := Nat.le_of_lt hz3_0; have hz3_1 : w.heap.size + 1 < w3.heap.size := lt_below hb3 ltg; have hl3_1 := Nat.le_of_lt hz3_1; have hA3 := bnext (w0 := w) bgo hb3; have hs3 := hA3.size; clear hb3)
    | (go_at_call 27; refine (c69 _ _ _ (hT.go bgo) hv2' hv3).mono ?_; rintro r w4 ⟨rfl, hb4⟩; obtain ⟨hc4, hf4⟩ := bcell hb4; have hz4_0 : w.heap.size < w4.heap.size := lt_below hb4 ltg; have hl4_0 := Nat.le_of_lt hz4_0; have hz4_1 : w.heap.size + 1 < w4.heap.size := lt_below hb4 ltg; have hl4_1 := Nat.le_of_lt hz4_1; have hA4 := bnext (w0 := w) bgo hb4; have hs4 := hA4.size; clear hb4))
  exact bodyPost_ret (v := .tuple #[A4 R, .int .i64 F, .int .i64 E]) (by simp only [results, Tryz.results46]; go_simp) rfl ⟨rfl, bgo⟩
set_option maxHeartbeats 4000000 in
theorem fin8_pos (he : ¬ e < 0)
    (c67 : ∀ W, Calls Tryz.prog 87 #[.int .i64 5, .int .i64 e] W fun r w' => ∃ v, r = .returned (.tuple #[v, .int .i64 0]) ∧ Nt 2001 P v w' ∧ Below W.heap.size W w')
    (c68 : ∀ W v v', Nz 251 A v W → Nt 2001 P v' W → Calls Tryz.prog 88 #[v, v'] W fun r w' => ∃ q, r = .returned (.tuple #[q, .int .i64 0]) ∧ Nt 2001 (A * P) q w' ∧ Below W.heap.size W w')
    (c69 : ∀ W v v', Tab W → Nt 2001 (A * P) v W → Nt 2001 1 v' W → Calls Tryz.prog 27 #[.int .i64 n, .int .i64 d, .bool s, v, v', .int .i64 e] W fun r w' => r = .returned (.tuple #[A4 R, .int .i64 F, .int .i64 E]) ∧ Below W.heap.size W w') :
    Calls Tryz.prog 46 #[.int .i64 n, .int .i64 d, PV c s g l x] w fun r w' => r = .returned (.tuple #[A4 R, .int .i64 F, .int .i64 E]) ∧ Below w.heap.size w w' := by
  have hsm := cell_set_map
  unfold PV at *
  go_enter Tryz.func46, Tryz.ntmps46
  go_wp2_with (first
    | (go_at_call 85; refine (c65 _).mono ?_; rintro r w1 ⟨rfl, hb1⟩; obtain ⟨hc1, hf1⟩ := bcell hb1; have hz1_0 : w.heap.size < w1.heap.size := lt_below hb1 ltg; have hl1_0 := Nat.le_of_lt hz1_0; have hz1_1 : w.heap.size + 1 < w1.heap.size := lt_below hb1 ltg; have hl1_1 := Nat.le_of_lt hz1_1; have hA1 := bnext (w0 := w) bgo hb1; have hs1 := hA1.size; clear hb1)
    | (go_at_call 86; refine (c66 _).mono ?_; rintro r w2 ⟨v2, rfl, hv2, hb2⟩; obtain ⟨hc2, hf2⟩ := bcell hb2; have hz2_0 : w.heap.size < w2.heap.size := lt_below hb2 ltg; have hl2_0 := Nat.le_of_lt hz2_0; have hz2_1 : w.heap.size + 1 < w2.heap.size := lt_below hb2 ltg; have hl2_1 := Nat.le_of_lt hz2_1; have hA2 := bnext (w0 := w) bgo hb2; have hs2 := hA2.size; clear hb2; have hone : Nt 2001 1 (.slice (some ⟨w2.heap.size, 0, none⟩) 1 1) (w2.alloc (.cells #[.int .u64 1] 23)) := (nt_one rfl rfl (by decide)).more (by decide); have hv2a := hv2.next (below1 w2 (.cells #[.int .u64 1] 23)))
    | (go_at_call 87; refine (c67 _).mono ?_; rintro r w3 ⟨v3, rfl, hv3, hb3⟩; have hv2' := hv2a.next hb3; have hone' := hone.next hb3; obtain ⟨hc3, hf3⟩ := bcell hb3; have hz3_0 : w.heap.size < w3.heap.size := lt_below hb3 ltg; have hl3_0 := Nat.le_of_lt hz3_0; have hz3_1 : w.heap.size + 1 < w3.heap.size := lt_below hb3 ltg; have hl3_1 := Nat.le_of_lt hz3_1; have hA3 := bnext (w0 := w) bgo hb3; have hs3 := hA3.size; clear hb3)
    | (go_at_call 88; refine (c68 _ _ _ hv2' hv3).mono ?_; rintro r w5 ⟨v5, rfl, hv5, hb5⟩; have hone2 := hone'.next hb5; obtain ⟨hc5, hf5⟩ := bcell hb5; have hz5_0 : w.heap.size < w5.heap.size := lt_below hb5 ltg; have hl5_0 := Nat.le_of_lt hz5_0; have hz5_1 : w.heap.size + 1 < w5.heap.size := lt_below hb5 ltg; have hl5_1 := Nat.le_of_lt hz5_1; have hA5 := bnext (w0 := w) bgo hb5; have hs5 := hA5.size; clear hb5)
    | (go_at_call 27; refine (c69 _ _ _ (hT.go bgo) hv5 hone2).mono ?_; rintro r w4 ⟨rfl, hb4⟩; obtain ⟨hc4, hf4⟩ := bcell hb4; have hz4_0 : w.heap.size < w4.heap.size := lt_below hb4 ltg; have hl4_0 := Nat.le_of_lt hz4_0; have hz4_1 : w.heap.size + 1 < w4.heap.size := lt_below hb4 ltg; have hl4_1 := Nat.le_of_lt hz4_1; have hA4 := bnext (w0 := w) bgo hb4; have hs4 := hA4.size; clear hb4))
  exact bodyPost_ret (v := .tuple #[A4 R, .int .i64 F, .int .i64 E]) (by simp only [results, Tryz.results46]; go_simp) rfl ⟨rfl, bgo⟩
end
theorem nz_nt {K V : Nat} {v : Value} {w : World} (h : Nz K V v w) (hK : K ≤ 2001) : Nt 2001 V v w := h.nt.more hK
/-- a finite number, rounded -/
theorem finite8 (n d : Int) (c : Int) (s g : Bool) (l : List UInt8) (x : Int) (w : World) (hT : Tab w) (hb : binN n) (hk : knB d) (hd : l.all dg = true) (hl : l.length ≤ 4000) :
    Calls Tryz.prog 46 #[.int .i64 n, .int .i64 d, PV c s g l x] w fun r w' => r = .returned (.tuple #[A4 (rdV n d s (tN (dV l) (pwE l.length x)) (tD (pwE l.length x)) (pwE l.length x)), .int .i64 (rdF n d s (tN (dV l) (pwE l.length x)) (tD (pwE l.length x)) (pwE l.length x)), .int .i64 0]) ∧ Below w.heap.size w w' := by
  have hpw : -10000 ≤ pwE l.length x ∧ pwE l.length x ≤ 6000 := by unfold pwE; omega
  have c65 := fun W => within8 c s g l x W hl
  have c66 := fun W => natural8 l W hd hl
  have hA : bl (dV l) ≤ 64 * 250 := bl_10 (dV_lt hd).1 (by omega)
  generalize pwE l.length x = e at *
  by_cases he : e < 0
  · have hm := five_bl (-e).toNat
    have e1 : tN (dV l) e = dV l := by unfold tN; rw [show e.toNat = 0 by omega, Nat.pow_zero, Nat.mul_one]
    have e2 : tD e = 5 ^ (-e).toNat := rfl
    rw [e1, e2]
    refine fin8_neg n d c s g l x e (dV l) (5 ^ (-e).toNat) _ _ _ w hT (by omega) c65 c66 he (fun W k hk' => ?_) (fun W v v' hT' hv hv' => ?_)
    · have := npow5 (-e).toNat W (by omega)
      rw [show (((-e).toNat : Nat) : Int) = k by omega] at this
      exact this
    · exact rnd_good n d e s hT' (nz_nt hv (by decide)) hv' hb hk (Nat.pos_iff_ne_zero.1 (Nat.pow_pos (by decide))) (by omega) (by omega)
  · have hm := five_bl e.toNat
    have e1 : tD e = 1 := by unfold tD; rw [show (-e).toNat = 0 by omega, Nat.pow_zero]
    have e2 : tN (dV l) e = dV l * 5 ^ e.toNat := rfl
    rw [e1, e2]
    have hbm := bl_mul (dV l) (5 ^ e.toNat)
    refine fin8_pos n d c s g l x e (dV l) (5 ^ e.toNat) _ _ _ w hT (by omega) c65 c66 he (fun W => ?_) (fun W v v' hv hv' => nmul_v hv hv' (by omega) (by omega)) (fun W v v' hT' hv hv' => ?_)
    · have := npow5 e.toNat W (by omega)
      rw [show ((e.toNat : Nat) : Int) = e by omega] at this
      exact this
    · exact rnd_good n d e s hT' hv hv' hb hk (by decide) (by omega) (by decide)
section
variable (n d : Int) (c : Int) (s g : Bool) (l : List UInt8) (x : Int) (T : List UInt8) (nm : ByteArray) (wd : Int) (f e : Nat) (lo m : Int) (w : World) (hT : Tab w)
include hT
variable (c28 : ∀ W, Tab W → Calls Tryz.prog 21 #[.int .i64 n, .int .i64 d] W fun r w' => r = .returned (.tuple #[DI n nm wd f e lo m, .int .i64 0]) ∧ Below W.heap.size W w')
include c28
variable (c31 : ∀ W, Below w.heap.size w W → Calls Tryz.prog 45 #[PV c s g l x] W fun r w' => r = .returned (.tuple #[.string (B T), .int .i64 0]) ∧ Below W.heap.size W w')
include c31
set_option maxHeartbeats 4000000 in
theorem make_1 (hc : c = 1) (R : Nat) (F E : Int) (c32 : ∀ W, Tab W → Calls Tryz.prog 46 #[.int .i64 n, .int .i64 d, PV 1 s g l x] W fun r w' => r = .returned (.tuple #[A4 R, .int .i64 F, .int .i64 E]) ∧ Below W.heap.size W w') :
    Calls Tryz.prog 23 #[.int .i64 n, .int .i64 d, PV c s g l x] w fun r w' => r = .returned (.tuple #[A4 R, .int .i64 F, .int .i64 E]) ∧ Below w.heap.size w w' := by
  subst hc
  have hsm := cell_set_map
  unfold PV at *
  go_enter Tryz.func23, Tryz.ntmps23
  go_wp2_with (first
    | (go_at_call 21; refine (c28 _ (hT.go bgo)).mono ?_; rintro r w1 ⟨rfl, hb1⟩; obtain ⟨hc1, hf1⟩ := bcell hb1; have hz1_0 : w.heap.size < w1.heap.size := lt_below hb1 ltg; have hl1_0 := Nat.le_of_lt hz1_0; have hz1_1 : w.heap.size + 1 < w1.heap.size := lt_below hb1 ltg; have hl1_1 := Nat.le_of_lt hz1_1; have hA1 := bnext (w0 := w) bgo hb1; have hs1 := hA1.size; clear hb1)
    | (go_at_call 45; refine (c31 _ bgo).mono ?_; rintro r w2 ⟨rfl, hb2⟩; obtain ⟨hc2, hf2⟩ := bcell hb2; have hz2_0 : w.heap.size < w2.heap.size := lt_below hb2 ltg; have hl2_0 := Nat.le_of_lt hz2_0; have hz2_1 : w.heap.size + 1 < w2.heap.size := lt_below hb2 ltg; have hl2_1 := Nat.le_of_lt hz2_1; have hz2_2 : w1.heap.size < w2.heap.size := lt_below hb2 ltg; have hl2_2 := Nat.le_of_lt hz2_2; have hA2 := bnext (w0 := w) bgo hb2; have hs2 := hA2.size; clear hb2)
    | (go_at_call 46; refine (c32 _ (hT.go bgo)).mono ?_; rintro r w3 ⟨rfl, hb3⟩; obtain ⟨hc3, hf3⟩ := bcell hb3; have hz3_0 : w.heap.size < w3.heap.size := lt_below hb3 ltg; have hl3_0 := Nat.le_of_lt hz3_0; have hz3_1 : w.heap.size + 1 < w3.heap.size := lt_below hb3 ltg; have hl3_1 := Nat.le_of_lt hz3_1; have hz3_2 : w1.heap.size < w3.heap.size := lt_below hb3 ltg; have hl3_2 := Nat.le_of_lt hz3_2; have hA3 := bnext (w0 := w) bgo hb3; have hs3 := hA3.size; clear hb3))
  exact bodyPost_ret (v := .tuple #[A4 R, .int .i64 F, .int .i64 E]) (by simp only [results, Tryz.results23]; go_simp) rfl ⟨rfl, bgo⟩
set_option maxHeartbeats 4000000 in
theorem make_2 (hc : c = 2) (R : Nat) (E : Int) (c34 : ∀ W, Tab W → Calls Tryz.prog 48 #[.int .i64 n, .agg #[.int .i64 2, .bool s, .bool g, .int .i64 0, .int .u64 0, .int .u64 0, .int .u64 0, .int .u64 0]] W fun r w' => r = .returned (.tuple #[A4 R, .int .i64 E]) ∧ Below W.heap.size W w') :
    Calls Tryz.prog 23 #[.int .i64 n, .int .i64 d, PV c s g l x] w fun r w' => r = .returned (.tuple #[A4 R, .int .i64 0, .int .i64 E]) ∧ Below w.heap.size w w' := by
  subst hc
  have hsm := cell_set_map
  unfold PV at *
  go_enter Tryz.func23, Tryz.ntmps23
  go_wp2_with (first
    | (go_at_call 21; refine (c28 _ (hT.go bgo)).mono ?_; rintro r w1 ⟨rfl, hb1⟩; obtain ⟨hc1, hf1⟩ := bcell hb1; have hz1_0 : w.heap.size < w1.heap.size := lt_below hb1 ltg; have hl1_0 := Nat.le_of_lt hz1_0; have hz1_1 : w.heap.size + 1 < w1.heap.size := lt_below hb1 ltg; have hl1_1 := Nat.le_of_lt hz1_1; have hA1 := bnext (w0 := w) bgo hb1; have hs1 := hA1.size; clear hb1)
    | (go_at_call 45; refine (c31 _ bgo).mono ?_; rintro r w2 ⟨rfl, hb2⟩; obtain ⟨hc2, hf2⟩ := bcell hb2; have hz2_0 : w.heap.size < w2.heap.size := lt_below hb2 ltg; have hl2_0 := Nat.le_of_lt hz2_0; have hz2_1 : w.heap.size + 1 < w2.heap.size := lt_below hb2 ltg; have hl2_1 := Nat.le_of_lt hz2_1; have hz2_2 : w1.heap.size < w2.heap.size := lt_below hb2 ltg; have hl2_2 := Nat.le_of_lt hz2_2; have hA2 := bnext (w0 := w) bgo hb2; have hs2 := hA2.size; clear hb2)
    | (go_at_call 48; refine (c34 _ (hT.go bgo)).mono ?_; rintro r w3 ⟨rfl, hb3⟩; obtain ⟨hc3, hf3⟩ := bcell hb3; have hz3_0 : w.heap.size < w3.heap.size := lt_below hb3 ltg; have hl3_0 := Nat.le_of_lt hz3_0; have hz3_1 : w.heap.size + 1 < w3.heap.size := lt_below hb3 ltg; have hl3_1 := Nat.le_of_lt hz3_1; have hz3_2 : w1.heap.size < w3.heap.size := lt_below hb3 ltg; have hl3_2 := Nat.le_of_lt hz3_2; have hz3_3 : w2.heap.size < w3.heap.size := lt_below hb3 ltg; have hl3_3 := Nat.le_of_lt hz3_3; have hA3 := bnext (w0 := w) bgo hb3; have hs3 := hA3.size; clear hb3))
  exact bodyPost_ret (v := .tuple #[A4 R, .int .i64 0, .int .i64 E]) (by simp only [results, Tryz.results23]; go_simp) rfl ⟨rfl, bgo⟩
set_option maxHeartbeats 4000000 in
theorem make_3 (hc : c = 3) (P R : Nat) (E : Int) (c33 : ∀ W, Calls Tryz.prog 47 #[DI n nm wd f e lo m, PV 3 s g l x] W fun r w' => r = .returned (A4 P) ∧ Below W.heap.size W w')
    (c34 : ∀ W, Tab W → Calls Tryz.prog 48 #[.int .i64 n, DV 3 s g 0 P] W fun r w' => r = .returned (.tuple #[A4 R, .int .i64 E]) ∧ Below W.heap.size W w') :
    Calls Tryz.prog 23 #[.int .i64 n, .int .i64 d, PV c s g l x] w fun r w' => r = .returned (.tuple #[A4 R, .int .i64 0, .int .i64 E]) ∧ Below w.heap.size w w' := by
  subst hc
  have hsm := cell_set_map
  unfold PV at *
  go_enter Tryz.func23, Tryz.ntmps23
  go_wp2_with (first
    | (go_at_call 21; refine (c28 _ (hT.go bgo)).mono ?_; rintro r w1 ⟨rfl, hb1⟩; obtain ⟨hc1, hf1⟩ := bcell hb1; have hz1_0 : w.heap.size < w1.heap.size := lt_below hb1 ltg; have hl1_0 := Nat.le_of_lt hz1_0; have hz1_1 : w.heap.size + 1 < w1.heap.size := lt_below hb1 ltg; have hl1_1 := Nat.le_of_lt hz1_1; have hA1 := bnext (w0 := w) bgo hb1; have hs1 := hA1.size; clear hb1)
    | (go_at_call 45; refine (c31 _ bgo).mono ?_; rintro r w2 ⟨rfl, hb2⟩; obtain ⟨hc2, hf2⟩ := bcell hb2; have hz2_0 : w.heap.size < w2.heap.size := lt_below hb2 ltg; have hl2_0 := Nat.le_of_lt hz2_0; have hz2_1 : w.heap.size + 1 < w2.heap.size := lt_below hb2 ltg; have hl2_1 := Nat.le_of_lt hz2_1; have hz2_2 : w1.heap.size < w2.heap.size := lt_below hb2 ltg; have hl2_2 := Nat.le_of_lt hz2_2; have hA2 := bnext (w0 := w) bgo hb2; have hs2 := hA2.size; clear hb2)
    | (go_at_call 47; refine (c33 _).mono ?_; rintro r w3 ⟨rfl, hb3⟩; obtain ⟨hc3, hf3⟩ := bcell hb3; have hz3_0 : w.heap.size < w3.heap.size := lt_below hb3 ltg; have hl3_0 := Nat.le_of_lt hz3_0; have hz3_1 : w.heap.size + 1 < w3.heap.size := lt_below hb3 ltg; have hl3_1 := Nat.le_of_lt hz3_1; have hz3_2 : w1.heap.size < w3.heap.size := lt_below hb3 ltg; have hl3_2 := Nat.le_of_lt hz3_2; have hz3_3 : w2.heap.size < w3.heap.size := lt_below hb3 ltg; have hl3_3 := Nat.le_of_lt hz3_3; have hA3 := bnext (w0 := w) bgo hb3; have hs3 := hA3.size; clear hb3)
    | (go_at_call 48; refine (c34 _ (hT.go bgo)).mono ?_; rintro r w4 ⟨rfl, hb4⟩; obtain ⟨hc4, hf4⟩ := bcell hb4; have hz4_0 : w.heap.size < w4.heap.size := lt_below hb4 ltg; have hl4_0 := Nat.le_of_lt hz4_0; have hz4_1 : w.heap.size + 1 < w4.heap.size := lt_below hb4 ltg; have hl4_1 := Nat.le_of_lt hz4_1; have hz4_2 : w1.heap.size < w4.heap.size := lt_below hb4 ltg; have hl4_2 := Nat.le_of_lt hz4_2; have hz4_3 : w2.heap.size < w4.heap.size := lt_below hb4 ltg; have hl4_3 := Nat.le_of_lt hz4_3; have hA4 := bnext (w0 := w) bgo hb4; have hs4 := hA4.size; clear hb4))
  exact bodyPost_ret (v := .tuple #[A4 R, .int .i64 0, .int .i64 E]) (by simp only [results, Tryz.results23]; go_simp) rfl ⟨rfl, bgo⟩
end
end
section
theorem NT.nz {K V : Nat} {v : Value} {w : World} (h : NT K V v w) : Nz K V v w := by
  obtain ⟨g, k, cap, z, h1, h2, h3, h4, h5⟩ := h
  exact ⟨_, k, cap, z, h1, h2, h3, h4, h5⟩
theorem NT.nt {K V : Nat} {v : Value} {w : World} (h : NT K V v w) : Nt K V v w := h.nz.nt
theorem npow2z (m : Nat) (w : World) (hm : m ≤ 12000) : Calls Tryz.prog 87 #[.int .i64 2, .int .i64 (m : Int)] w fun r w' => ∃ v, r = .returned (.tuple #[v, .int .i64 0]) ∧ Nt 2001 (2 ^ m) v w' ∧ Below w.heap.size w w' := by
  refine (npow_two m w hm).mono fun r w' ⟨g, k, cap, z, e1, hk, hN, hv, hs, hB⟩ => ⟨_, e1, ⟨_, k, cap, z, rfl, hk, hN, ?_⟩, hB⟩
  rw [hv]; simp
attribute [local irreducible] W4 Nz Nt NT
/-- the guessed place of the first digit -/
def gsP (k : Nat) (x : Int) : Int := (((bl k : Int) - 1 + x) * 30103).tdiv 100000 - 1
end
section
attribute [local irreducible] W4 Nz Nt NT
/-- is the next number below nearer than the next one above -/
def nbB (n x : Int) (k : Nat) : Bool := decide (leastN n < x) && decide (k = 2 ^ fN n)
end
section
/-- all but block g is as it was, but for what is new -/
structure Mut (g : Nat) (w w' : World) : Prop where
  os : w'.os = w.os
  tape : w'.tape = w.tape
  output : w'.output = w.output
  size : w.heap.size ≤ w'.heap.size
  block : ∀ k, k < w.heap.size → k ≠ g → w'.heap[k]? = w.heap[k]?
theorem Mut.refl (g : Nat) (w : World) : Mut g w w := ⟨rfl, rfl, rfl, Nat.le_refl _, fun _ _ _ => rfl⟩
theorem Mut.trans {g : Nat} {a b c : World} (h : Mut g a b) (k : Mut g b c) : Mut g a c :=
  ⟨k.os.trans h.os, k.tape.trans h.tape, k.output.trans h.output, Nat.le_trans h.size k.size, fun i hi hg => (k.block i (Nat.lt_of_lt_of_le hi h.size) hg).trans (h.block i hi hg)⟩
theorem Mut.below {g : Nat} {a b : World} (h : Below a.heap.size a b) : Mut g a b := ⟨h.os, h.tape, h.output, h.size, fun k hk _ => h.block k hk⟩
theorem Mut.set {g : Nat} {a b : World} (h : Mut g a b) (i : Nat) (v : Value) : Mut g a (b.setCell ⟨g, i, none⟩ v) :=
  h.trans ⟨rfl, rfl, rfl, by simp [World.setCell], fun k _ hk => Below.heap_setCell _ _ _ _ hk⟩
theorem Mut.out {g B : Nat} {w0 w w' : World} (h : Mut g w w') (h0 : Below B w0 w) (hB : B ≤ g) (hs : B ≤ w0.heap.size) : Below B w0 w' :=
  h0.trans ⟨h.os, h.tape, h.output, h.size, fun k hk => h.block k (by have := h0.size; omega) (by omega)⟩
attribute [local irreducible] W4 Nz Nt NT
end
section
theorem tn_ex {k : Nat} {x : Int} : ∀ (d : Nat) (g0 : Int), tnP k x g0 → ¬ tnP k x (g0 + d) → ∃ E, g0 ≤ E ∧ E < g0 + d ∧ tnP k x E ∧ ¬ tnP k x (E + 1)
  | 0, g0, h0, h1 => absurd h0 (by simpa using h1)
  | d + 1, g0, h0, h1 => by
    by_cases h : tnP k x (g0 + 1)
    · obtain ⟨E, e1, e2, e3, e4⟩ := tn_ex d (g0 + 1) h (by rw [show g0 + 1 + (d : Int) = g0 + ((d + 1 : Nat) : Int) by omega]; exact h1)
      exact ⟨E, by omega, by omega, e3, e4⟩
    · exact ⟨g0, Int.le_refl _, by omega, h0, h⟩
theorem tn_top {k : Nat} {x : Int} (hk : k < 2 ^ 256) (hx : x ≤ 17000) : ¬ tnP k x 6000 := by
  unfold tnP zE oE
  rw [show ((-6000 : Int)).toNat = 0 by decide, Nat.pow_zero, Nat.mul_one, show ((6000 : Int)).toNat = 6000 by decide]
  have h1 : (2 : Nat) ^ 18000 ≤ 10 ^ 6000 := by decide +kernel
  obtain ⟨m', hm'⟩ : ∃ m' : Nat, m' = 18000 := ⟨_, rfl⟩
  rw [← hm'] at h1
  generalize (10 : Nat) ^ 6000 = T at *
  obtain ⟨m, hm⟩ : ∃ m : Nat, m = 17000 := ⟨_, rfl⟩
  have h2 : k * 2 ^ x.toNat < 2 ^ 256 * 2 ^ m := by
    have a1 : k * 2 ^ x.toNat < 2 ^ 256 * 2 ^ x.toNat := Nat.mul_lt_mul_of_pos_right hk (Nat.two_pow_pos _)
    have a2 : 2 ^ 256 * 2 ^ x.toNat ≤ 2 ^ 256 * 2 ^ m := Nat.mul_le_mul_left _ (Nat.pow_le_pow_right (by decide) (by omega))
    exact Nat.lt_of_lt_of_le a1 a2
  rw [← Nat.pow_add] at h2
  have h3 : (2 : Nat) ^ (256 + m) ≤ 2 ^ m' := Nat.pow_le_pow_right (by decide) (by omega)
  have h4 : 1 * T ≤ 2 ^ (-x).toNat * T := Nat.mul_le_mul_right _ (Nat.two_pow_pos _)
  generalize (2 : Nat) ^ (256 + m) = Y at *
  generalize (2 : Nat) ^ m' = Y' at *
  rw [Nat.mul_assoc 4, Nat.mul_assoc 4]
  generalize 2 ^ (-x).toNat * T = Z1 at *
  generalize k * 2 ^ x.toNat = Z2 at *
  omega
attribute [local irreducible] W4 Nz Nt NT
end
section
theorem NT.grown {K V Bs : Nat} {v tv : Value} {l : List UInt8} {w w' : World} (h : NT K V v w) (ho : w.ownsRow Bs 5 1 tv l.length (Lib.byteCells l)) (hl : tv = .slice none 0 0 ∨ 0 < l.length) (hg : w.grownBy w' tv.ownBlock) : NT K V v w' := by
  obtain ⟨b, k, cap, z, h1, h2, ⟨n1, n2, n3, n4, n5⟩, h4, h5⟩ := h
  refine ⟨b, k, cap, z, h1, h2, ⟨n1, n2, n3, n4, ?_⟩, h4, h5⟩
  rcases n5 with n5 | ⟨b', off, e, hb, hc⟩
  · exact Or.inl n5
  · cases e
    refine Or.inr ⟨b, 0, rfl, Nat.lt_of_lt_of_le hb hg.size, fun i hi => ?_⟩
    have hne : some b ≠ tv.ownBlock := by
      rcases hl with rfl | hl
      · intro h; cases h
      · obtain ⟨g', cap', rfl, _, _⟩ := ho.form hl
        intro h
        have : b = g' := Option.some.inj h
        subst this
        have h6 := hc 0 (by omega)
        rw [Nat.add_zero, ho.cellAt 0 (by omega)] at h6
        simp [Lib.byteCells, hl] at h6
    exact (World.cell?_of_block (w := w) (a := ⟨b, 0 + i, none⟩) (hg.block b hb hne)).trans (hc i hi)
attribute [local irreducible] W4 Nz Nt NT
end
/-- how many quarters below a number are read as it -/
def lwN (n x : Int) (k : Nat) : Nat := if nbB n x k then 1 else 2
def evK (k : Nat) : Bool := decide (k % 2 = 0)
/-- the first digit's place, and how many digits behind it -/
structure Shd (n x : Int) (k : Nat) (E : Int) (K : Nat) : Prop where
  t0 : tnP k x E
  t1 : ¬ tnP k x (E + 1)
  st : stK (evK k) (4 * k * oE x E) (lwN n x k * oE x E) (2 * oE x E) (zE x E) K = true
  mn : ∀ j, j < K → stK (evK k) (4 * k * oE x E) (lwN n x k * oE x E) (2 * oE x E) (zE x E) j = false
theorem gs_in {k : Nat} {x : Int} (hk : k < 2 ^ 256) (hk0 : k ≠ 0) (hx : -16990 ≤ x ∧ x ≤ 16990) : tnP k x (gsP k x) ∧ -6000 ≤ gsP k x ∧ gsP k x < 6000 := by
  have hb : bl k ≤ 256 := bl_le.2 hk
  obtain ⟨b1, b2, b3⟩ := bl_bd hk0
  have e : ((bl k - 1 : Nat) : Int) = (bl k : Int) - 1 := by omega
  have := guess_ok (c := k) (L := bl k - 1) (x := x) b1 (by omega)
  rw [e] at this
  refine ⟨this, ?_⟩
  unfold gsP
  by_cases h0 : 0 ≤ (bl k : Int) - 1 + x
  · rw [Int.tdiv_eq_ediv_of_nonneg (by omega)]; omega
  · rw [show ((bl k : Int) - 1 + x) * 30103 = -(-((bl k : Int) - 1 + x) * 30103) by omega, Int.neg_tdiv, Int.tdiv_eq_ediv_of_nonneg (by omega)]; omega
theorem Shd.ex {n x : Int} {k : Nat} (hk : k < 2 ^ 256) (hk0 : k ≠ 0) (hx : -16990 ≤ x ∧ x ≤ 16990) : ∃ E K, Shd n x k E K := by
  obtain ⟨g1, g2, g3⟩ := gs_in hk hk0 hx
  obtain ⟨E, e1, e2, e3, e4⟩ := tn_ex (6000 - gsP k x).toNat (gsP k x) g1 (by rw [show gsP k x + ((6000 - gsP k x).toNat : Int) = 6000 by omega]; exact tn_top hk (by omega))
  have hl : 0 < lwN n x k * oE x E := Nat.mul_pos (by unfold lwN; split <;> decide) (oE_pos _ _)
  obtain ⟨K, h1, h2⟩ := st_ex (c := evK k) (R := 4 * k * oE x E) (u := 2 * oE x E) (zE_pos x E) hl
  exact ⟨E, K, e3, e4, h1, h2⟩
end Go.Proofs.YtpemdcnneabbfaaGreatDoor
