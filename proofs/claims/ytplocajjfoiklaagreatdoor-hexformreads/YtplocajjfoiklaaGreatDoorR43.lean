/-
  Texts that the proof leans on, joined: Rq, We, Rr, Rs, Rt, Wf.
-/
import Derived.Test.YtplocajjfoiklaaGreatDoorR42
import Derived.Test.YtplocajjfoiklaaGreatDoorR1
import Derived.Test.YtplocajjfoiklaaGreatDoorR41
import Derived.Test.YtplocajjfoiklaaGreatDoorR33
import Derived.Deep.RegionWith
import Derived.Test.YtplocajjfoiklaaGreatDoorR34
set_option maxHeartbeats 8000000
set_option linter.unusedVariables false
set_option linter.unusedSectionVars false
set_option linter.unusedSimpArgs false
set_option maxRecDepth 20000
namespace Go.Proofs.YtplocajjfoiklaaGreatDoor
open Go.RowKit
theorem rpack_bad (n : Int) (d : Dat) (w : World) (h : ¬ binN n) :
  Calls Tryz.prog 96 #[.int .i64 n, d.v] w fun x w' => x = .returned (.tuple #[Z4, .int .i64 1]) ∧ Below w.heap.size w w' := by
 have c35 := fun w => rbinary_any n w
 rw [decide_eq_false h] at c35
 obtain ⟨c, s, g, x, k⟩ := d
 unfold Dat.v
 dsimp only
 have hsm := cell_set_map
 clear h
 go_enter Tryz.func96, Tryz.ntmps96
 go_wp2_with (go_at_call 14; refine (c35 _).mono ?_; rintro r w0 ⟨rfl, rfl⟩)
 exact bodyPost_ret (v := .tuple #[Z4, .int .i64 1]) (by simp only [results, Tryz.results96]; go_simp) rfl ⟨rfl, bgo⟩
theorem rpack_none (n : Int) (nm : ByteArray) (wd : Int) (f e : Nat) (l m : Int) (c x : Int) (s g : Bool) (k : Nat) (w : World)
  (c35 : ∀ w, Calls Tryz.prog 14 #[.int .i64 n] w fun x w' => x = .returned (.bool true) ∧ w = w')
  (c25 : ∀ w, Calls Tryz.prog 58 #[.int .i64 n] w fun x w' => x = .returned (.tuple #[IV n nm wd f e l m, .int .i64 0]) ∧ Below w.heap.size w w')
  (c36 : ∀ w, Calls Tryz.prog 152 #[IV n nm wd f e l m, DV c s g x k] w fun r w' => r = .returned (.bool false) ∧ Below w.heap.size w w') :
  Calls Tryz.prog 96 #[.int .i64 n, DV c s g x k] w fun x w' => x = .returned (.tuple #[Z4, .int .i64 3]) ∧ Below w.heap.size w w' := by
 have hsm := cell_set_map
 go_enter Tryz.func96, Tryz.ntmps96
 go_wp2_with (first
  | (go_at_call 14; refine (c35 _).mono ?_; rintro r w0 ⟨rfl, rfl⟩)
  | (go_at_call 58; refine (c25 _).mono ?_; rintro x w1 ⟨rfl, hb1⟩; obtain ⟨hc1, hf1, hz1_0, hl1_0, hA1, hs1⟩ := wz w hb1 w.heap.size; obtain ⟨hz1_1, hl1_1⟩ := zf hb1 (w.heap.size + 1); clear hb1)
  | (go_at_call 152; refine (c36 _).mono ?_; rintro x w2 ⟨rfl, hb2⟩; obtain ⟨hc2, hf2, hz2_0, hl2_0, hA2, hs2⟩ := wz w hb2 w.heap.size; obtain ⟨hz2_1, hl2_1⟩ := zf hb2 (w.heap.size + 1); obtain ⟨hz2_2, hl2_2⟩ := zf hb2 w1.heap.size; clear hb2))
 exact bodyPost_ret (v := .tuple #[Z4, .int .i64 3]) (by simp only [results, Tryz.results96]; go_simp) rfl ⟨rfl, bgo⟩
theorem rof_bin {n : Int} (hb : binN n) (w : World) : Calls Tryz.prog 58 #[.int .i64 n] w fun x w' => x = .returned (.tuple #[IV n (nameN n) (widthN n) (fN n) (eN n) (leastN n) (mostN n), .int .i64 0]) ∧ Below w.heap.size w w' := by
 obtain ⟨hok, hb2, hpr, hex, hwd, hpy⟩ := bin_fields hb
 obtain ⟨hnum, hden⟩ := bin_more hb
 have c25 := rofv_any n w
 rw [show infoE n = 0 from if_pos hok, hnum, hb2, hpr, hex, hden, hpy] at c25
 exact c25
theorem rpack_any (n : Int) (d : Dat) (w : World) (hk : d.k < 2 ^ 256) :
  Calls Tryz.prog 96 #[.int .i64 n, d.v] w fun x w' => x = .returned (.tuple #[A4 (pkV n d), .int .i64 (pkE n d)]) ∧ Below w.heap.size w w' := by
 by_cases hb : binN n
 ·have hF := bin_fm hb
  have c25 := fun w => rof_bin hb w
  have c35 : ∀ w, Calls Tryz.prog 14 #[.int .i64 n] w fun x w' => x = .returned (.bool true) ∧ w = w' := fun w => by
   have := rbinary_any n w
   rw [decide_eq_true hb] at this
   exact this.mono fun _ _ ⟨h1, h2⟩ => ⟨h1, h2.symm⟩
  have c36 := fun w => ris_any n (nameN n) (widthN n) (fN n) (eN n) (leastN n) (mostN n) d w hF hk
  by_cases hi : isD (fN n) (leastN n) (mostN n) d
  ·rw [decide_eq_true hi] at c36
   have e1 : pkE n d = 0 := by unfold pkE; rw [if_pos hb, if_pos hi]
   have e2 : pkV n d = pk (fN n) (eN n) (leastN n) d := by unfold pkV; rw [if_pos ⟨hb, hi⟩]
   have h256 := pkV_256 n d
   rw [e2] at h256
   rw [e1, e2]
   clear e1 e2
   have hf : 2 ≤ fN n ∧ fN n ≤ 240 := ⟨hF.f2, hF.f240⟩
   have he := hF.e15
   have hfe := hF.fe
   have hpc : ((2 : Int) ^ eN n) = ((2 ^ eN n : Nat) : Int) := by simp
   have hp := pow_e hF.e2 hF.e15
   rw [hpc] at hp
   have hAll : (2 : Int) ^ eN n - 1 = ((2 ^ eN n - 1 : Nat) : Int) := by rw [hpc]; omega
   have hl1 := hF.l1
   have hl0 := hF.l0
   have hm := hF.m
   rw [hpc] at hm
   generalize fN n = f at *
   generalize eN n = e at *
   generalize leastN n = l at *
   generalize mostN n = m at *
   obtain ⟨c, s, g, x, k⟩ := d
   unfold Dat.v at *
   dsimp only at hk c36 ⊢
   have hBs : (if s then 2 ^ (f + e) else 0) < 2 ^ 256 := by
    cases s
    ·rw [if_neg (by decide)]; decide
    ·exact Nat.pow_lt_pow_right (by decide) (by omega)
   have cS : s = true → ∀ W v, NV 1 1 v W → Calls Tryz.prog 153 #[Z4, v, .int .i64 ((f : Int) + e)] W fun r w' => r = .returned (A4 (if s then 2 ^ (f + e) else 0)) ∧ Below W.heap.size W w' := fun hs W v hv => by
    have := lay_any 0 1 (f + e) 1 v W (by decide) (by decide) (by omega) hv
    rw [Z4_eq, Int.natCast_add, Nat.zero_add, Nat.one_mul] at this
    rw [hs, if_pos rfl]; exact this
   have hB0 : s = false → ∀ i, W4 (if s then 2 ^ (f + e) else 0) i = 0 := fun hs i => by rw [hs, if_neg (by decide), W4_zero]
   have hNv : val (lowW (W4 k) 4) 4 = (k : Int) := by
    rw [val_congr (x := lowW (W4 k) 4) (y := W4 k) 4 (fun i hi => lowW_lt hi), W4_val4 hk]
   unfold pk at h256 ⊢
   dsimp only at h256 ⊢
   rcases hi with ⟨hc, hg, hk1, hx1, hx2, hx3⟩ | ⟨hc, hg, hx, hk0⟩ | ⟨hc, hx, hk1, hg⟩
   ·dsimp only at hc hg hk1 hx1 hx2 hx3
    subst hc
    rw [if_pos rfl] at h256 ⊢
    generalize (if s then 2 ^ (f + e) else 0) = Bs at *
    have hL := len4_le (k := f) hk
    have hpf : 2 ^ (f + 1) = 2 ^ f + 2 ^ f := by rw [Nat.pow_succ]; omega
    have hFr : k % 2 ^ f < 2 ^ f := Nat.mod_lt _ (Nat.two_pow_pos _)
    have hFk : k % 2 ^ f ≤ k := Nat.mod_le _ _
    have c26 : ∀ W, Calls Tryz.prog 27 #[A4 k, .int .i64 0, .int .i64 f] W fun e w' => ∃ r, e = .returned r ∧ NV 19 (k % 2 ^ f) r w' ∧ Below W.heap.size W w' := fun W => by
     have := field_any k 0 f W hk (by decide) (by omega)
     rw [show ((0 : Nat) : Int) = 0 from rfl, Nat.pow_zero, Nat.div_one] at this
     exact this.mono fun _ _ ⟨r, h1, h2, h3⟩ => ⟨r, h1, h2.nv, h3⟩
    have cF : ∀ W v, NV 19 (k % 2 ^ f) v W → Calls Tryz.prog 153 #[A4 Bs, v, .int .i64 0] W fun r w' => r = .returned (A4 (Bs + k % 2 ^ f)) ∧ Below W.heap.size W w' := fun W v hv => by
     have := lay_any Bs (k % 2 ^ f) 0 19 v W hBs (by decide) (by decide) hv
     rw [show ((0 : Nat) : Int) = 0 from rfl, Nat.pow_zero, Nat.mul_one] at this
     exact this
    have c38 : ∀ W, Num W (some ⟨w.heap.size, 4, none⟩) 4 4 (lowW (W4 k) 4) → Calls Tryz.prog 26 #[.slice (some ⟨w.heap.size, 4, none⟩) 4 4] W fun e w' => e = .returned (.int .i64 (lenL (W4 k) 4)) ∧ W = w' := fun W hN => by
     have := rlen_num (some ⟨w.heap.size, 4, none⟩) 4 4 (lowW (W4 k) 4) W (by decide) hN
     rw [lenL_low] at this
     exact this
    have hmul : ((x - l).toNat + 1) * 2 ^ f = (x - l).toNat * 2 ^ f + 2 ^ f := by rw [Nat.add_mul, Nat.one_mul]
    refine rpack1 n _ _ f e (2 ^ e - 1) _ Bs l m x s g k w hf he hAll c35 c25 cS hB0 c36 (Bs + k % 2 ^ f) (k % 2 ^ f) ((x - l).toNat + 1) (lenL (W4 k) 4) (by omega) (by omega) (by omega) c38 ?_ c26 cF ?_
    ·intro hlt W hN
     have hkf : k < 2 ^ f := hL.1 (by omega)
     obtain rfl : x = l := by omega
     have := lay_off Bs k 0 4 w.heap.size 4 4 _ W hBs (by decide) (by decide) hN hNv
     rw [show ((0 : Nat) : Int) = 0 from rfl, Nat.pow_zero, Nat.mul_one] at this
     rw [Int.sub_self, Int.toNat_zero, Nat.zero_mul, Nat.zero_add, Nat.add_comm k]
     exact this
    ·intro hlt W v hv
     have hkf : 2 ^ f ≤ k := by
      rcases Nat.lt_or_ge k (2 ^ f) with hh | hh
      ·have := hL.2 hh; omega
      ·exact hh
     have hke : k % 2 ^ f + 2 ^ f = k := by
      rw [Nat.mod_eq_sub_mod hkf, Nat.mod_eq_of_lt (by omega)]; omega
     have := lay_any (Bs + k % 2 ^ f) ((x - l).toNat + 1) f 1 v W (by omega) (by decide) (by omega) hv
     rw [show Bs + k % 2 ^ f + ((x - l).toNat + 1) * 2 ^ f = (x - l).toNat * 2 ^ f + k + Bs by omega] at this
     exact this
   ·dsimp only at hc hg hx hk0
    subst hc
    rw [if_neg (by decide), if_pos rfl, Nat.add_zero] at h256 ⊢
    generalize (if s then 2 ^ (f + e) else 0) = Bs at *
    refine rpack2 n _ _ f e (2 ^ e - 1) _ Bs l m x s g k w hf he hAll c35 c25 cS hB0 c36 fun W v hv => ?_
    have := lay_any Bs (2 ^ e - 1) f 1 v W hBs (by decide) (by omega) hv
    rw [Nat.add_comm Bs] at this
    exact this
   ·dsimp only at hc hx hk1 hg
    subst hc
    rw [if_neg (by decide), if_neg (by decide)] at h256 ⊢
    generalize (if s then 2 ^ (f + e) else 0) = Bs at *
    generalize hA : (2 ^ e - 1) * 2 ^ f = A at *
    have hlt : A + k + Bs < 2 ^ 256 := by cases g <;> simp at h256 <;> omega
    refine rpack3 n _ _ f e (2 ^ e - 1) _ Bs l m x s g k w hf he hAll c35 c25 cS hB0 c36 (Bs + A) (Bs + A + k) ?_ ?_ ?_ ?_
    ·intro W v hv
     have := lay_any Bs (2 ^ e - 1) f 1 v W hBs (by decide) (by omega) hv
     rw [hA] at this
     exact this
    ·intro W hN
     have := lay_off (Bs + A) k 0 4 w.heap.size 4 4 _ W (by omega) (by decide) (by decide) hN hNv
     rw [show ((0 : Nat) : Int) = 0 from rfl, Nat.pow_zero, Nat.mul_one] at this
     exact this
    ·intro hg W v hv
     have := lay_any (Bs + A + k) 1 (f - 1) 1 v W (by omega) (by decide) (by omega) hv
     rw [show ((f - 1 : Nat) : Int) = (f : Int) - 1 by omega, Nat.one_mul] at this
     subst hg
     rw [if_neg (by decide), show A + (k + 2 ^ (f - 1)) + Bs = Bs + A + k + 2 ^ (f - 1) by omega]
     exact this
    ·intro hg
     subst hg
     rw [if_pos rfl]; omega
  ·rw [decide_eq_false hi] at c36
   have e1 : pkE n d = 3 := by unfold pkE; rw [if_pos hb, if_neg hi]
   have e2 : pkV n d = 0 := by unfold pkV; exact if_neg fun h => hi h.2
   rw [e1, e2, Z4_eq]
   exact rpack_none n _ _ _ _ _ _ _ _ _ _ _ w c35 c25 c36
 ·have e1 : pkV n d = 0 := if_neg fun h => hb h.1
  have e2 : pkE n d = 1 := if_neg hb
  rw [e1, e2, Z4_eq]
  exact rpack_bad n d w hb
section
attribute [local irreducible] W4 NT NV
section
variable (n d x : Int) (s : Bool) (gn kn cn : Nat) (vd : Value) (w : World)
variable (nm : ByteArray) (wd : Int) (f e : Nat) (l m : Int) (A B A' B' C : Nat) (K K' : Nat) (RZ RI RL RF : Nat) (E2 E3 E4 E5 : Int) (low q0 : Int) (ex inf : Bool)
 (c47 : ∀ W, Calls Tryz.prog 58 #[.int .i64 n] W fun r w' => r = .returned (.tuple #[IV n nm wd f e l m, .int .i64 0]) ∧ Below W.heap.size W w')
include c47
theorem round_z
  (c66 : ∀ W, Calls Tryz.prog 96 #[.int .i64 n, .agg #[.int .i64 1, .bool s, .bool false, .int .i64 l, .int .u64 0, .int .u64 0, .int .u64 0, .int .u64 0]] W fun r w' => r = .returned (.tuple #[A4 RZ, .int .i64 E2]) ∧ Below W.heap.size W w') :
  Calls Tryz.prog 45 #[.int .i64 n, .int .i64 d, .bool s, .slice (some ⟨gn, 0, none⟩) 0 cn, vd, .int .i64 x] w fun r w' => r = .returned (.tuple #[A4 RZ, .int .i64 0]) ∧ Below w.heap.size w w' := by
 have hsm := cell_set_map
 go_enter Tryz.func45, Tryz.ntmps45
 go_wp2_with (first
  | (go_at_call 58; refine (c47 _).mono ?_; rintro r w1 ⟨rfl, hb1⟩; obtain ⟨hc1, hf1, hz1_0, hl1_0, hA1, hs1⟩ := wz w hb1 w.heap.size; clear hb1)
  | (go_at_call 96; refine (c66 _).mono ?_; rintro r w2 ⟨rfl, hb2⟩; obtain ⟨hc2, hf2, hz2_0, hl2_0, hA2, hs2⟩ := wz w hb2 w.heap.size; obtain ⟨hz2_1, hl2_1⟩ := zf hb2 w1.heap.size; clear hb2))
 exact bodyPost_ret (v := .tuple #[A4 RZ, .int .i64 0]) (by simp only [results, Tryz.results45]; go_simp) rfl ⟨rfl, bgo⟩
variable (hf : f ≤ 300) (hl : -100000 ≤ l ∧ l ≤ 100000) (hm : -100000 ≤ m ∧ m ≤ 100000) (hld : -3000000 ≤ low ∧ low ≤ 3000000) (hq0 : q0 = max l (low - ((f : Int) + 1) + 1))
 (hkn : ((kn : Int) == 0) = false)
 (c67 : ∀ W, Below w.heap.size w W → Calls Tryz.prog 99 #[.slice (some ⟨gn, 0, none⟩) kn cn, vd, .int .u64 2, .int .i64 x] W fun r w' => ∃ a b, r = .returned (.tuple #[a, b]) ∧ NT K A a w' ∧ NT K B b w' ∧ Below W.heap.size W w')
 (c68 : ∀ W a b, NT K A a W → NT K B b W → Calls Tryz.prog 104 #[a, b] W fun r w' => r = .returned (.int .i64 low) ∧ Below W.heap.size W w')
 (c67b : ∀ W a b k, k = -q0 → NT K A a W → NT K B b W → Calls Tryz.prog 99 #[a, b, .int .u64 2, .int .i64 k] W fun r w' => ∃ a' b', r = .returned (.tuple #[a', b']) ∧ NT K' A' a' w' ∧ NT K' B' b' w' ∧ Below W.heap.size W w')
 (c69 : ∀ W a b, NT K' A' a W → NT K' B' b W → Calls Tryz.prog 105 #[.int .i64 d, .bool s, a, b] W fun r w' => ∃ v, r = .returned (.tuple #[v, .bool ex]) ∧ NV 41002 C v w' ∧ Below W.heap.size W w')
 (c70 : ∀ W v, NV 41002 C v W → Calls Tryz.prog 26 #[v] W fun r w' => r = .returned (.int .i64 (bl C : Int)) ∧ W = w')
 (c71 : ∀ W v, NV 41002 C v W → Calls Tryz.prog 29 #[v, .int .i64 1] W fun r w' => ∃ v' b, r = .returned (.tuple #[v', .bool b]) ∧ NV 41002 (C / 2) v' w' ∧ Below W.heap.size W w')
include hf hl hm hld hq0 hkn c67 c68 c67b c69 c70 c71
theorem round_w (C' : Nat) (q' : Int) (hup : (f : Int) + 1 < (bl C : Int) → C' = C / 2 ∧ q' = q0 + 1) (hno : ¬ (f : Int) + 1 < (bl C : Int) → C' = C ∧ q' = q0)
  (R : Nat) (fl : Int)
  (ho : m < q' → R = (if inf then RI else RL) ∧ fl = 10) (hn : ¬ m < q' → R = RF ∧ fl = if ex then 0 else if low < l + ((f : Int) + 1) - 1 then 12 else 8)
  (c72 : ∀ W, Calls Tryz.prog 106 #[.int .i64 n, .bool s] W fun r w' => r = .returned (.tuple #[A4 RL, .int .i64 E3]) ∧ Below W.heap.size W w')
  (c73 : ∀ W, Calls Tryz.prog 107 #[.int .i64 d, .bool s] W fun r w' => r = .returned (.bool inf) ∧ W = w')
  (c66i : ∀ W, Calls Tryz.prog 96 #[.int .i64 n, .agg #[.int .i64 2, .bool s, .bool false, .int .i64 0, .int .u64 0, .int .u64 0, .int .u64 0, .int .u64 0]] W fun r w' => r = .returned (.tuple #[A4 RI, .int .i64 E4]) ∧ Below W.heap.size W w')
  (c66f : ¬ m < q' → ∀ W, Calls Tryz.prog 96 #[.int .i64 n, DV 1 s false q' C'] W fun r w' => r = .returned (.tuple #[A4 RF, .int .i64 E5]) ∧ Below W.heap.size W w') :
  Calls Tryz.prog 45 #[.int .i64 n, .int .i64 d, .bool s, .slice (some ⟨gn, 0, none⟩) kn cn, vd, .int .i64 x] w fun r w' => r = .returned (.tuple #[A4 R, .int .i64 fl]) ∧ Below w.heap.size w w' := by
 have hsm := cell_set_map
 have hds : ∀ W : World, W.drew.heap.size = W.heap.size := fun W => by simp
 have hqb : -4000000 ≤ q0 ∧ q0 ≤ 4000000 := by omega
 go_enter Tryz.func45, Tryz.ntmps45
 go_upto_region 10 with (first
  | (go_at_call 58; refine (c47 _).mono ?_; rintro r w1 ⟨rfl, hb1⟩; obtain ⟨hc1, hf1, hz1_0, hl1_0, hA1, hs1⟩ := wz w hb1 w.heap.size; clear hb1)
  | (go_at_call 99; refine (c67b _ _ _ _ (by omega) (nA2.next hb3') (nB2.next hb3')).mono ?_; rintro r w4 ⟨a4, b4, rfl, nA4, nB4, hb4⟩; obtain ⟨hc4, hf4, hz4_0, hl4_0, hA4, hs4⟩ := wz w hb4 w.heap.size; obtain ⟨hz4_1, hl4_1⟩ := zf hb4 w1.heap.size; clear hb4)
  | (go_at_call 99; refine (c67 _ bgo).mono ?_; rintro r w2 ⟨a2, b2, rfl, nA2, nB2, hb2⟩; obtain ⟨hc2, hf2, hz2_0, hl2_0, hA2, hs2⟩ := wz w hb2 w.heap.size; obtain ⟨hz2_1, hl2_1⟩ := zf hb2 w1.heap.size; clear hb2)
  | (go_at_call 104; refine (c68 _ _ _ nA2 nB2).mono ?_; rintro r w3 ⟨rfl, hb3⟩; have hb3' := hb3; obtain ⟨hc3, hf3, hz3_0, hl3_0, hA3, hs3⟩ := wz w hb3 w.heap.size; obtain ⟨hz3_1, hl3_1⟩ := zf hb3 w1.heap.size; clear hb3)
  | (go_at_call 105; refine (c69 _ _ _ nA4 nB4).mono ?_; rintro r w5 ⟨vc, rfl, hvc, hb5⟩; obtain ⟨hc5, hf5, hz5_0, hl5_0, hA5, hs5⟩ := wz w hb5 w.heap.size; obtain ⟨hz5_1, hl5_1⟩ := zf hb5 w1.heap.size; clear hb5))
 go_cut [84] from 28 (fun t wc => t = .bool (decide ((f : Int) + 1 < (bl C : Int))) ∧ NV 41002 C vc wc ∧ Ib wc w1.heap.size n nm wd f e l m ∧ (∀ i, i < 4 → wc.cell? ⟨w.heap.size, i, none⟩ = some (.int .u64 0)) ∧ (∀ i, wc.frozen? ⟨w.heap.size, i, none⟩ = false) ∧ Below w.heap.size w wc ∧ w1.heap.size < wc.heap.size)
 case first =>
  go_region_with (go_at_call 26; refine (c70 _ _ (hvc.next bgo)).mono ?_; rintro r w6 ⟨rfl, rfl⟩)
  all_goals (
   go_wp2_with fail
   go_meet
   exact ⟨rfl, hvc.next bgo, ⟨by go_simp, by go_simp, by go_simp, by go_simp, by go_simp, by go_simp, by go_simp, by go_simp, by go_simp, by go_simp⟩, zeros4 (by go_simp) (by go_simp) (by go_simp) (by go_simp), fun i => by go_simp, bgo, by first | assumption | (simp; done) | (simp; omega) | omega⟩)
 case rest =>
  obtain ⟨ht, hvc', fI, fz, ffr, hbw, hsz⟩ := hcut
  obtain ⟨y0, y1, y2, y3, y4, y5, y6, y7, y8, y9⟩ := fI
  have hl0 : w.heap.size < wc.heap.size := by omega
  have hle0 := Nat.le_of_lt hl0
  have hle1 := Nat.le_of_lt hsz
  have z0 := fz 0 (by decide)
  have z1 := fz 1 (by decide)
  have z2 := fz 2 (by decide)
  have z3 := fz 3 (by decide)
  go_upto_if 84 with fail
  go_cut [19, 22] from 28 (fun t19 t22 wc => t19 = .int .i64 q' ∧ NV 41002 C' t22 wc ∧ Ib wc w1.heap.size n nm wd f e l m ∧ (∀ i, i < 4 → wc.cell? ⟨w.heap.size, i, none⟩ = some (.int .u64 0)) ∧ (∀ i, wc.frozen? ⟨w.heap.size, i, none⟩ = false) ∧ Below w.heap.size w wc ∧ w1.heap.size < wc.heap.size)
  case first =>
   clear ho hn c72 c73 c66i c66f
   by_cases hu : (f : Int) + 1 < (bl C : Int)
   ·obtain ⟨rfl, rfl⟩ := hup (by omega)
    rw [decide_eq_true hu] at ht
    subst ht
    clear hup hno
    go_wp2_with (go_at_call 29; refine (c71 _ _ hvc').mono ?_; rintro r w7 ⟨v7, b7, rfl, h7, hb7⟩; obtain ⟨hc7, hf7, hz7_0, hl7_0, hA7, hs7⟩ := wz w hb7 w.heap.size; obtain ⟨hz7_1, hl7_1⟩ := zf hb7 w1.heap.size; clear hb7)
    go_meet
    exact ⟨by first | rfl | (congr 1; omega), h7, ⟨by go_simp, by go_simp, by go_simp, by go_simp, by go_simp, by go_simp, by go_simp, by go_simp, by go_simp, by go_simp⟩, zeros4 (by go_simp) (by go_simp) (by go_simp) (by go_simp), fun i => by go_simp, bgo, by first | assumption | (simp; done) | (simp; omega) | omega⟩
   ·obtain ⟨rfl, rfl⟩ := hno (by omega)
    rw [decide_eq_false hu] at ht
    subst ht
    clear hup hno
    go_wp2
    go_meet
    exact ⟨by first | rfl | (congr 1; omega), hvc', ⟨by go_simp, by go_simp, by go_simp, by go_simp, by go_simp, by go_simp, by go_simp, by go_simp, by go_simp, by go_simp⟩, zeros4 (by go_simp) (by go_simp) (by go_simp) (by go_simp), fun i => by go_simp, bgo, by first | assumption | (simp; done) | (simp; omega) | omega⟩
  case rest =>
   clear fz ffr hbw hsz y0 y1 y2 y3 y4 y5 y6 y7 y8 y9 hl0 hle0 hle1 z0 z1 z2 z3 ht hvc' hup hno
   obtain ⟨rfl, hv', fI, fz, ffr, hbw, hsz⟩ := hcut
   obtain ⟨y0, y1, y2, y3, y4, y5, y6, y7, y8, y9⟩ := fI
   have hl0 : w.heap.size < wc.heap.size := by omega
   have hle0 := Nat.le_of_lt hl0
   have hle1 := Nat.le_of_lt hsz
   have z0 := fz 0 (by decide)
   have z1 := fz 1 (by decide)
   have z2 := fz 2 (by decide)
   have z3 := fz 3 (by decide)
   by_cases hov : m < q'
   ·obtain ⟨hR, rfl⟩ := ho (by omega)
    clear ho hn c66f
    cases inf with
    | true =>
     have hR' : R = RI := hR
     subst hR'
     clear hR
     go_wp2_with (first
      | (go_at_call 106; refine (c72 _).mono ?_; rintro r w8 ⟨rfl, hb8⟩; obtain ⟨hc8, hf8, hz8_0, hl8_0, hA8, hs8⟩ := wz w hb8 w.heap.size; obtain ⟨hz8_1, hl8_1⟩ := zf hb8 w1.heap.size; clear hb8)
      | (go_at_call 107; refine (c73 _).mono ?_; rintro r w9 ⟨rfl, rfl⟩)
      | (go_at_call 96; refine (c66i _).mono ?_; rintro r w10 ⟨rfl, hb10⟩; obtain ⟨hc10, hf10, hz10_0, hl10_0, hA10, hs10⟩ := wz w hb10 w.heap.size; obtain ⟨hz10_1, hl10_1⟩ := zf hb10 w1.heap.size; obtain ⟨hz10_2, hl10_2⟩ := zf hb10 w8.heap.size; clear hb10))
     exact bodyPost_ret (v := .tuple #[A4 R, .int .i64 10]) (by simp only [results, Tryz.results45]; go_simp) rfl ⟨rfl, bgo⟩
    | false =>
     have hR' : R = RL := hR
     subst hR'
     clear hR
     go_wp2_with (first
      | (go_at_call 106; refine (c72 _).mono ?_; rintro r w8 ⟨rfl, hb8⟩; obtain ⟨hc8, hf8, hz8_0, hl8_0, hA8, hs8⟩ := wz w hb8 w.heap.size; obtain ⟨hz8_1, hl8_1⟩ := zf hb8 w1.heap.size; clear hb8)
      | (go_at_call 107; refine (c73 _).mono ?_; rintro r w9 ⟨rfl, rfl⟩))
     exact bodyPost_ret (v := .tuple #[A4 R, .int .i64 10]) (by simp only [results, Tryz.results45]; go_simp) rfl ⟨rfl, bgo⟩
   ·obtain ⟨rfl, hfl⟩ := hn (by omega)
    have c66 := c66f (by omega)
    clear ho hn c66f c66i
    cases ex with
    | true =>
     have hfl' : fl = 0 := hfl
     subst hfl'
     clear hfl
     go_wp2_with (first
      | (go_at_call 60; refine (bits_nv hv').mono ?_; rintro r w8 ⟨rfl, hb8⟩; obtain ⟨hc8, hf8, hz8_0, hl8_0, hA8, hs8⟩ := wz w hb8 w.heap.size; obtain ⟨hz8_1, hl8_1⟩ := zf hb8 w1.heap.size; clear hb8)
      | (go_at_call 96; refine (c66 _).mono ?_; rintro r w9 ⟨rfl, hb9⟩; obtain ⟨hc9, hf9, hz9_0, hl9_0, hA9, hs9⟩ := wz w hb9 w.heap.size; obtain ⟨hz9_1, hl9_1⟩ := zf hb9 w1.heap.size; clear hb9))
     exact bodyPost_ret (v := .tuple #[A4 R, .int .i64 0]) (by simp only [results, Tryz.results45]; go_simp) rfl ⟨rfl, bgo⟩
    | false =>
     by_cases hsm' : low < l + ((f : Int) + 1) - 1
     ·have hfl' : fl = 12 := by rw [hfl, if_neg (by decide), if_pos hsm']
      subst hfl'
      clear hfl
      go_wp2_with (first
       | (go_at_call 60; refine (bits_nv hv').mono ?_; rintro r w8 ⟨rfl, hb8⟩; obtain ⟨hc8, hf8, hz8_0, hl8_0, hA8, hs8⟩ := wz w hb8 w.heap.size; obtain ⟨hz8_1, hl8_1⟩ := zf hb8 w1.heap.size; clear hb8)
       | (go_at_call 96; refine (c66 _).mono ?_; rintro r w9 ⟨rfl, hb9⟩; obtain ⟨hc9, hf9, hz9_0, hl9_0, hA9, hs9⟩ := wz w hb9 w.heap.size; obtain ⟨hz9_1, hl9_1⟩ := zf hb9 w1.heap.size; clear hb9))
      exact bodyPost_ret (v := .tuple #[A4 R, .int .i64 12]) (by simp only [results, Tryz.results45]; go_simp) rfl ⟨rfl, bgo⟩
     ·have hfl' : fl = 8 := by rw [hfl, if_neg (by decide), if_neg hsm']
      subst hfl'
      clear hfl
      go_wp2_with (first
       | (go_at_call 60; refine (bits_nv hv').mono ?_; rintro r w8 ⟨rfl, hb8⟩; obtain ⟨hc8, hf8, hz8_0, hl8_0, hA8, hs8⟩ := wz w hb8 w.heap.size; obtain ⟨hz8_1, hl8_1⟩ := zf hb8 w1.heap.size; clear hb8)
       | (go_at_call 96; refine (c66 _).mono ?_; rintro r w9 ⟨rfl, hb9⟩; obtain ⟨hc9, hf9, hz9_0, hl9_0, hA9, hs9⟩ := wz w hb9 w.heap.size; obtain ⟨hz9_1, hl9_1⟩ := zf hb9 w1.heap.size; clear hb9))
      exact bodyPost_ret (v := .tuple #[A4 R, .int .i64 8]) (by simp only [results, Tryz.results45]; go_simp) rfl ⟨rfl, bgo⟩
end
end
section
theorem nv_one_drew {W : World} {g V : Nat} {vi : Int} (hg : g = W.heap.size) (hv : vi = (V : Int)) (hb : V < 18446744073709551616) : NV 1 V (.slice (some ⟨g, 0, none⟩) 1 1) (W.alloc (.cells #[.int .u64 vi] 22)).drew :=
 (nv_one hg hv hb).next (Below.refl _ _).drew
attribute [local irreducible] W4 NT NV
end
section
attribute [local irreducible] W4 NT NV
theorem rlargest_ok (n : Int) (nm : ByteArray) (wd : Int) (f e P K R : Nat) (l m Er : Int) (s : Bool) (w : World) (hP : 1 ≤ P)
  (c35 : ∀ w, Calls Tryz.prog 14 #[.int .i64 n] w fun x w' => x = .returned (.bool true) ∧ w = w')
  (c25 : ∀ w, Calls Tryz.prog 58 #[.int .i64 n] w fun x w' => x = .returned (.tuple #[IV n nm wd f e l m, .int .i64 0]) ∧ Below w.heap.size w w')
  (c30 : ∀ w, Calls Tryz.prog 61 #[.int .u64 2, .int .i64 ((f : Int) + 1)] w fun x w' => ∃ v, x = .returned v ∧ NV K P v w' ∧ Below w.heap.size w w')
  (c41 : ∀ W v v', NV K P v W → NV 1 1 v' W → Calls Tryz.prog 66 #[v, v'] W fun e w' => ∃ r, e = .returned r ∧ NV (K + 1) (P - 1) r w' ∧ Below W.heap.size W w')
  (c13 : ∀ w, Calls Tryz.prog 96 #[.int .i64 n, DV 1 s false m (P - 1)] w fun r w' => r = .returned (.tuple #[A4 R, .int .i64 Er]) ∧ Below w.heap.size w w')
  : Calls Tryz.prog 106 #[.int .i64 n, .bool s] w fun x w' => x = .returned (.tuple #[A4 R, .int .i64 Er]) ∧ Below w.heap.size w w' := by
 have hsm := cell_set_map
 have hds : ∀ W : World, W.drew.heap.size = W.heap.size := fun W => by simp
 go_enter Tryz.func106, Tryz.ntmps106
 go_wp2_with (first
  | (go_at_call 14; refine (c35 _).mono ?_; rintro r w0 ⟨rfl, rfl⟩)
  | (go_at_call 58; refine (c25 _).mono ?_; rintro x w1 ⟨rfl, hb1⟩; obtain ⟨hc1, hf1, hz1_0, hl1_0, hA1, hs1⟩ := wz w hb1 w.heap.size; clear hb1))
 have hm0 : w.heap.size < w1.heap.size + 1 + 1 := by omega
 have hm2 : w.heap.size < w1.heap.size + 2 := by omega
 go_region_with (first
  | (go_at_call 61; refine (c30 _).mono ?_; rintro r w3 ⟨v3, rfl, h3, hb3⟩; (try have hone : NV 1 1 (.slice (some ⟨w1.heap.size + 1, 0, none⟩) 1 1) w3 := (nv_one_drew (by simp) rfl (by decide)).next hb3); obtain ⟨hc3, hf3, hz3_0, hl3_0, hA3, hs3⟩ := wz w hb3 w.heap.size; obtain ⟨hz3_1, hl3_1⟩ := zf hb3 w1.heap.size; clear hb3)
  | (go_at_call 66; refine (c41 _ _ _ (by first | exact h3 | exact h3.next bgo) (by first | exact hone | exact nv_one (by simp) rfl (by decide))).mono ?_; rintro r w4 ⟨v4, rfl, h4, hb4⟩; obtain ⟨hc4, hf4, hz4_0, hl4_0, hA4, hs4⟩ := wz w hb4 w.heap.size; obtain ⟨hz4_1, hl4_1⟩ := zf hb4 w1.heap.size; clear hb4)
  | (go_at_call 60; refine (bits_nv h4).mono ?_; rintro r w5 ⟨rfl, hb5⟩; obtain ⟨hc5, hf5, hz5_0, hl5_0, hA5, hs5⟩ := wz w hb5 w.heap.size; obtain ⟨hz5_1, hl5_1⟩ := zf hb5 w1.heap.size; clear hb5)
  | (go_at_call 96; refine (c13 _).mono ?_; rintro r w6 ⟨rfl, hb6⟩; obtain ⟨hc6, hf6, hz6_0, hl6_0, hA6, hs6⟩ := wz w hb6 w.heap.size; obtain ⟨hz6_1, hl6_1⟩ := zf hb6 w1.heap.size; clear hb6))
 all_goals (
  go_wp2_with fail
  exact bodyPost_ret (v := .tuple #[A4 R, .int .i64 Er]) (by simp only [results, Tryz.results106]; go_simp) rfl ⟨rfl, bgo⟩)
end
section
theorem rless_wide {K K' A B : Nat} {v v' : Value} {w : World} (hK : K < 1000000) (hK' : K' < 1000000) (h : NV K A v w) (h' : NV K' B v' w) (hv : B ≤ A) :
  Calls Tryz.prog 66 #[v, v'] w fun e w' => ∃ r, e = .returned r ∧ NT (K + K') (A - B) r w' ∧ Below w.heap.size w w' := by
 obtain ⟨g, k, c, z, rfl, hk, hN, hz⟩ := h
 obtain ⟨g2, k2, c2, z2, rfl, hk2, hN2, hz2⟩ := h'
 refine (rless_tr _ _ k c k2 c2 z z2 w (by omega) (by omega) hN hN2).mono fun e w' ⟨g3, k3, cap3, e1, hk3, hN3, ht, hB⟩ => ⟨_, e1, ⟨g3, k3, cap3, _, rfl, by omega, hN3, ?_, ht⟩, hB⟩
 have ex := val_more hN.2.2.2.1 (max k k2) (by omega)
 have ey := val_more hN2.2.2.2.1 (max k k2) (by omega)
 have e := dif_val hN.2.2.1 hN2.2.2.1 (max k k2)
 rw [borW_end hN.2.2.1 hN2.2.2.1 (by omega), ex, ey] at e
 rw [← val_more hN3.2.2.2.1 _ hk3, val_congr (y := difW z z2) (max k k2) fun i hi => by unfold difZ; rw [if_pos hi]]
 omega
attribute [local irreducible] W4 NT NV
theorem rlargest_bad (n : Int) (s : Bool) (w : World) (h : ¬ binN n) :
  Calls Tryz.prog 106 #[.int .i64 n, .bool s] w fun x w' => x = .returned (.tuple #[Z4, .int .i64 1]) ∧ Below w.heap.size w w' := by
 have c35 := fun w => rbinary_any n w
 rw [decide_eq_false h] at c35
 have hsm := cell_set_map
 clear h
 go_enter Tryz.func106, Tryz.ntmps106
 go_wp2_with (go_at_call 14; refine (c35 _).mono ?_; rintro r w0 ⟨rfl, rfl⟩)
 exact bodyPost_ret (v := .tuple #[Z4, .int .i64 1]) (by simp only [results, Tryz.results106]; go_simp) rfl ⟨rfl, bgo⟩
theorem rlargest_any (n : Int) (s : Bool) (w : World) :
  Calls Tryz.prog 106 #[.int .i64 n, .bool s] w fun x w' => x = .returned (.tuple #[A4 (lgV n s), .int .i64 (lgE n)]) ∧ Below w.heap.size w w' := by
 by_cases hb : binN n
 ·have hF := bin_fm hb
  have c25 := fun w => rof_bin hb w
  have c35 : ∀ w, Calls Tryz.prog 14 #[.int .i64 n] w fun x w' => x = .returned (.bool true) ∧ w = w' := fun w => by
   have := rbinary_any n w
   rw [decide_eq_true hb] at this
   exact this.mono fun _ _ ⟨h1, h2⟩ => ⟨h1, h2.symm⟩
  have hf := hF.f240
  have hp1 : 1 ≤ 2 ^ (fN n + 1) := Nat.one_le_two_pow
  have h256 : 2 ^ (fN n + 1) < 2 ^ 256 := Nat.pow_lt_pow_right (by decide) (by omega)
  have c30 := fun w => rpow_nv (fN n + 1) w (by omega)
  have c13 := fun w => rpack_any n ⟨1, s, false, mostN n, 2 ^ (fN n + 1) - 1⟩ w (by show 2 ^ (fN n + 1) - 1 < _; omega)
  have hpf : 2 ^ (fN n + 1) = 2 ^ fN n + 2 ^ fN n := by rw [Nat.pow_succ]; omega
  have hpp : 1 ≤ 2 ^ fN n := Nat.one_le_two_pow
  have hpc : ((2 : Int) ^ eN n) = ((2 ^ eN n : Nat) : Int) := by simp
  have hp := pow_e hF.e2 hF.e15
  have hm := hF.m
  rw [hpc] at hp hm
  have hi : isD (fN n) (leastN n) (mostN n) ⟨1, s, false, mostN n, 2 ^ (fN n + 1) - 1⟩ := Or.inl ⟨rfl, rfl, by show 2 ^ (fN n + 1) - 1 < _; omega, by show leastN n ≤ mostN n; omega, Int.le_refl _, Or.inl (by show 2 ^ fN n ≤ 2 ^ (fN n + 1) - 1; omega)⟩
  have e1 : pkE n ⟨1, s, false, mostN n, 2 ^ (fN n + 1) - 1⟩ = lgE n := by unfold pkE lgE; rw [if_pos hb, if_pos hi, if_pos hb]
  have e2 : pkV n ⟨1, s, false, mostN n, 2 ^ (fN n + 1) - 1⟩ = lgV n s := by
   unfold pkV lgV pk
   rw [if_pos ⟨hb, hi⟩, if_pos hb]
   dsimp only
   rw [if_pos rfl, show (mostN n - leastN n).toNat = 2 ^ eN n - 3 by omega]
   obtain ⟨q, hq⟩ : ∃ q, 2 ^ eN n = q + 3 := ⟨2 ^ eN n - 3, by omega⟩
   rw [hq, show q + 3 - 3 = q by omega, show q + 3 - 2 = q + 1 by omega, Nat.add_mul]
   omega
  rw [e1, e2] at c13
  refine rlargest_ok n _ _ _ _ _ _ _ _ _ _ s w hp1 c35 c25 c30 (fun W v v' h h' => ?_) c13
  exact (rless_wide (by decide) (by decide) h h' hp1).mono fun _ _ ⟨r, a1, a2, a3⟩ => ⟨r, a1, a2.nv, a3⟩
 ·unfold lgV lgE
  rw [if_neg hb, if_neg hb, Z4_eq]
  exact rlargest_bad n s w hb
end
section
theorem DV_zero (c : Int) (s g : Bool) (x : Int) : DV c s g x 0 = .agg #[.int .i64 c, .bool s, .bool g, .int .i64 x, .int .u64 0, .int .u64 0, .int .u64 0, .int .u64 0] := by
 unfold DV; simp only [W4_zero]
theorem sN_bl {N : Nat} (h : N ≠ 0) (x : Int) : bl (sN N x) ≤ bl N + 200000 := by
 unfold sN; rw [bl_shift h]; unfold clZ; omega
theorem sD_bl {N : Nat} (h : N ≠ 0) (x : Int) : bl (sD N x) ≤ bl N + 200000 := by
 unfold sD; rw [bl_shift h]; unfold clZ; omega
theorem round_v (n d x : Int) (s : Bool) {N D : Nat} {vn vd : Value} {w : World} (hn : NT 2001 N vn w) (hd : NT 2001 D vd w) (hb : binN n) (hk : knB d) (hD : D ≠ 0) (h1 : bl N ≤ 120000) (h2 : bl D ≤ 120000) :
  Calls Tryz.prog 45 #[.int .i64 n, .int .i64 d, .bool s, vn, vd, .int .i64 x] w fun r w' => r = .returned (.tuple #[A4 (doV n d s N D x), .int .i64 (doF n d s N D x)]) ∧ Below w.heap.size w w' := by
 obtain ⟨f1, f2, f3, f4, f5⟩ := fld_bd hb
 have c47 := fun W => rof_bin hb W
 obtain ⟨gn, kn, cn, rfl, hkn, hz⟩ := hn.zero
 by_cases hN : N = 0
 ·have hk0 := hz.2 hN
  subst hk0
  unfold doV doF
  rw [if_pos hN, if_pos hN]
  have c66 := fun W => rpack_any n ⟨1, s, false, leastN n, 0⟩ W (show 0 < 2 ^ 256 by decide)
  rw [show (Dat.v ⟨1, s, false, leastN n, 0⟩) = _ from DV_zero 1 s false (leastN n)] at c66
  exact round_z n d x s gn cn vd w _ _ _ _ _ _ _ _ c47 c66
 ·have hk0 : ((kn : Int) == 0) = false := by
   rw [beq_eq_false_iff_ne]
   intro e
   exact hN (hz.1 (by omega))
  have hw := dlow_ways hN hD x
  have hlb := low_bd (sN N x) (sD D x)
  have b1 := sN_bl hN x
  have b2 := sD_bl hD x
  have hld : -3000000 ≤ dLow N D x ∧ dLow N D x ≤ 3000000 := by unfold dLow; omega
  have c67 := fun W (hb' : Below w.heap.size w W) => rscale_nt x (by decide) (hn.next hb') (hd.next hb')
  have c68 := fun W a b (ha : NT (2001 + 3130) (sN N x) a W) (hb' : NT (2001 + 3130) (sD D x) b W) => rexp_nt (by decide) ha hb' (by omega) (by omega)
  have c67b : ∀ W a b k, k = -(dQ n N D x) → NT (2001 + 3130) (sN N x) a W → NT (2001 + 3130) (sD D x) b W → Calls Tryz.prog 99 #[a, b, .int .u64 2, .int .i64 k] W fun r w' => ∃ a' b', r = .returned (.tuple #[a', b']) ∧ NT (2001 + 3130 + 3130) (dA n N D x) a' w' ∧ NT (2001 + 3130 + 3130) (dB n N D x) b' w' ∧ Below W.heap.size W w' := by
   rintro W a b k rfl ha hb'
   exact rscale_nt _ (by decide) ha hb'
  have hB0 : dB n N D x ≠ 0 := sD_ne (sD_ne hD x) _
  have c69 := fun W a b (ha : NT (2001 + 3130 + 3130) (dA n N D x) a W) (hb' : NT (2001 + 3130 + 3130) (dB n N D x) b W) => whole_nt d s hk (by decide) ha hb' hB0
  have c70 := fun W v (hv : NV 41002 (dC n d s N D x) v W) => rlen_nv (by decide) hv
  have c71 := fun W v (hv : NV 41002 (dC n d s N D x) v W) => rright1_nv (by decide) hv
  have c66i := fun W => rpack_any n ⟨2, s, false, 0, 0⟩ W (show 0 < 2 ^ 256 by decide)
  rw [show (Dat.v ⟨2, s, false, 0, 0⟩) = _ from DV_zero 2 s false 0] at c66i
  have hf3 : fN n ≤ 300 := by omega
  have hl3 : -100000 ≤ leastN n ∧ leastN n ≤ 100000 := by omega
  have hm3 : -100000 ≤ mostN n ∧ mostN n ≤ 100000 := by omega
  refine round_w n d x s gn kn cn vd w (nameN n) (widthN n) (fN n) (eN n) (leastN n) (mostN n) (sN N x) (sD D x) (dA n N D x) (dB n N D x) (dC n d s N D x) _ _ (pkV n ⟨2, s, false, 0, 0⟩) (lgV n s) (pkV n ⟨1, s, false, dQ' n d s N D x, dC' n d s N D x⟩) _ _ _ (dLow N D x) (dQ n N D x) (decide (dA n N D x % dB n N D x = 0)) (inB d s) c47 hf3 hl3 hm3 hld rfl hk0 c67 c68 c67b c69 c70 c71 (dC' n d s N D x) (dQ' n d s N D x) (fun h => ⟨if_pos h, if_pos h⟩) (fun h => ⟨if_neg h, if_neg h⟩) _ _ (fun ho => ?_) (fun ho => ?_) (fun W => rlargest_any n s W) (fun W => rfar_kn d s W hk) c66i (fun ho W => rpack_any n ⟨1, s, false, dQ' n d s N D x, dC' n d s N D x⟩ W (do_lt d s x hb hN hD h1 h2 ho))
  ·unfold doV doF
   rw [if_neg hN, if_neg hN, if_pos ho, if_pos ho]
   exact ⟨rfl, rfl⟩
  ·unfold doV doF
   rw [if_neg hN, if_neg hN, if_neg ho, if_neg ho]
   refine ⟨rfl, ?_⟩
   simp only [decide_eq_true_eq]
attribute [local irreducible] W4 NT NV Nt
end
end Go.Proofs.YtplocajjfoiklaaGreatDoor
