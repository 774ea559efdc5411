/-
  Texts that the proof leans on, joined: Xb, Xc.
-/
import Derived.Test.YtplocajjfoiklaaGreatDoorR38
import Derived.Test.YtplocajjfoiklaaGreatDoorR6
import Derived.Test.YtplocajjfoiklaaGreatDoorR1
set_option maxHeartbeats 8000000
set_option linter.unusedVariables false
set_option linter.unusedSectionVars false
set_option linter.unusedSimpArgs false
set_option maxRecDepth 20000
namespace Go.Proofs.YtplocajjfoiklaaGreatDoor
open Go.RowKit
section
def plA (f A : Nat) : Nat := if (f : Int) - 1 < (bl A : Int) then 0 else A
def plV (f : Nat) (g : Bool) (A : Nat) : Nat := if g = true ∧ plA f A = 0 then 1 else plA f A
theorem nz_open {K V : Nat} {v : Value} {w : World} (h : Nz K V v w) : ∃ a k cap z, v = .slice a k cap ∧ k ≤ K ∧ Num w a k cap z ∧ val z k = (V : Int) ∧ sizeL z k = k := h
theorem nz_one {W : World} {g V : Nat} {vi : Int} (hg : g = W.heap.size) (hv : vi = (V : Int)) (hb : V < 18446744073709551616) (h0 : V ≠ 0) : Nz 251 V (.slice (some ⟨g, 0, none⟩) 1 1) (W.alloc (.cells #[.int .u64 vi] 22)) := by
 subst hg hv
 refine ⟨_, 1, 1, oneW V, rfl, by decide, num_one W V (by omega), val_one1 V, ?_⟩
 simp [sizeL, oneW]; omega
theorem nz_next {K V : Nat} {v : Value} {w w' : World} (h : Nz K V v w) (hb : Below w.heap.size w w') : Nz K V v w' := h.next hb
theorem plV_lt {f A : Nat} (g : Bool) (hf : f ≤ 240) : plV f g A < 2 ^ 256 := by
 have h : plA f A < 2 ^ 240 := by
  unfold plA
  split
  ·exact Nat.two_pow_pos _
  ·rename_i h
   exact bl_le.1 (by omega)
 have h2 : (2 : Nat) ^ 240 < 2 ^ 256 := by decide
 unfold plV
 split
 ·decide
 ·omega
theorem nz_nil251 (w : World) : Nz 251 0 (.slice none 0 0) w := by
 obtain ⟨a, k, cap, z, e, hk, h1, h2, h3⟩ := nz_open (nz_nil w)
 exact ⟨a, k, cap, z, e, by omega, h1, h2, h3⟩
attribute [local irreducible] W4 Nz Nt
section
variable (n : Int) (nm : ByteArray) (wd : Int) (f e : Nat) (l m : Int) (c : Int) (s g : Bool) (d : List UInt8) (x : Int) (A : Nat) (w : World) (hf : f ≤ 240)
 (c66 : ∀ W, Calls Tryz.prog 146 #[.string (B d)] W fun r w' => ∃ v, r = .returned v ∧ Nz 251 A v w' ∧ Below W.heap.size W w')
 (c70 : ∀ W v V, Nz 251 V v W → Calls Tryz.prog 77 #[v] W fun r w' => r = .returned (.int .i64 (bl V : Int)) ∧ W = w')
include hf c66 c70
theorem payload_w : Calls Tryz.prog 90 #[DI n nm wd f e l m, PV c s g d x] w fun r w' => r = .returned (A4 (plV f g A)) ∧ Below w.heap.size w w' := by
 have hsm := cell_set_map
 have hds : ∀ W : World, W.drew.heap.size = W.heap.size := fun W => by simp
 have HLT : Hid (plV f g A < 2 ^ 256) := plV_lt g hf
 unfold PV
 go_enter Tryz.func90, Tryz.ntmps90
 go_upto_region 2 with (go_at_call 146; refine (c66 _).mono ?_; rintro r w1 ⟨v1, rfl, hv1, hb1⟩; obtain ⟨hc1, hf1, hz1_0, hl1_0, hA1, hs1⟩ := wz w hb1 w.heap.size; obtain ⟨hz1_1, hl1_1⟩ := zf hb1 (w.heap.size + 1); obtain ⟨hz1_2, hl1_2⟩ := zf hb1 (w.heap.size + 2); obtain ⟨hz1_3, hl1_3⟩ := zf hb1 (w.heap.size + 1 + 1); clear hb1)
 go_cut [14] from 7 (fun t wc => t = .bool (decide ((f : Int) - 1 < (bl A : Int))) ∧ Nz 251 A v1 wc ∧ wc.cell? ⟨w.heap.size + 1, 2, none⟩ = some (.bool g) ∧ (∀ i, i < 4 → wc.cell? ⟨w.heap.size + 1 + 1, i, none⟩ = some (.int .u64 0)) ∧ (∀ i, wc.frozen? ⟨w.heap.size + 1 + 1, i, none⟩ = false) ∧ Below w.heap.size w wc ∧ w.heap.size + 1 + 1 < wc.heap.size)
 case first =>
  go_region_with (go_at_call 77; refine (c70 _ _ _ (nz_next hv1 bgo)).mono ?_; rintro r w6 ⟨rfl, rfl⟩)
  all_goals (
   go_wp2_with fail
   go_meet
   exact ⟨rfl, nz_next hv1 bgo, by go_simp, zeros4 (by go_simp) (by go_simp) (by go_simp) (by go_simp), fun i => by go_simp, bgo, by first | assumption | (simp; done) | (simp; omega) | omega⟩)
 case rest =>
  obtain ⟨ht, hvc, gs, fz, ffr, hbw, hsz⟩ := hcut
  have hl0 : w.heap.size < wc.heap.size := by omega
  have hl1 : w.heap.size + 1 < wc.heap.size := by omega
  have z0 := fz 0 (by decide)
  have z1 := fz 1 (by decide)
  have z2 := fz 2 (by decide)
  have z3 := fz 3 (by decide)
  go_upto_if 14 with fail
  go_cut [5] from 7 (fun t5 wx => Nz 251 (plA f A) t5 wx ∧ wx = wc)
  case first =>
   by_cases hu : (f : Int) - 1 < (bl A : Int)
   ·rw [decide_eq_true hu] at ht
    subst ht
    have e : plA f A = 0 := if_pos hu
    go_wp2
    go_meet
    exact ⟨by rw [e]; exact nz_nil251 wc, rfl⟩
   ·rw [decide_eq_false hu] at ht
    subst ht
    have e : plA f A = A := if_neg hu
    go_wp2
    go_meet
    exact ⟨by rw [e]; exact hvc, rfl⟩
  case rest =>
   obtain ⟨hv5, rfl⟩ := hcut
   clear hvc ht
   cases g with
   | false =>
    have e : plV f false A = plA f A := if_neg (by simp)
    go_upto_if 21 with fail
    go_cut [5] from 7 (fun t5 wc => Nz 251 (plV f false A) t5 wc ∧ (∀ i, i < 4 → wc.cell? ⟨w.heap.size + 1 + 1, i, none⟩ = some (.int .u64 0)) ∧ (∀ i, wc.frozen? ⟨w.heap.size + 1 + 1, i, none⟩ = false) ∧ Below w.heap.size w wc ∧ w.heap.size + 1 + 1 < wc.heap.size)
    case first =>
     go_wp2
     go_meet
     exact ⟨by rw [e]; exact hv5, fz, ffr, hbw, hsz⟩
    case rest =>
     clear hv5 gs fz ffr hbw hsz z0 z1 z2 z3 hl0 hl1
     obtain ⟨hv5, fz, ffr, hbw, hsz⟩ := hcut
     have y0 := fz 0 (by decide)
     have y1 := fz 1 (by decide)
     have y2 := fz 2 (by decide)
     have y3 := fz 3 (by decide)
     obtain ⟨a, k, cap, z, rfl, hk, hN, hv, hs⟩ := nz_open hv5
     clear hv5
     have hC := HLT.out
     obtain ⟨C, hCe⟩ : ∃ C, plV f false A = C := ⟨_, rfl⟩
     rw [hCe] at hC hv
     have hk4 : k ≤ 4 := by
      have := (size_bl (m := 4) hN.2.2.1 hv).2 (bl_le.2 hC)
      omega
     have hv4 : val z 4 = (C : Int) := by rw [val_more hN.2.2.2.1 4 hk4, hv]
     have hz : ∀ i, i < 4 → z i = W4 C i := val_inj hN.2.2.1 (W4_words C) 4 (by rw [hv4, W4_val4 hC])
     have eA : A4 C = .agg #[.int .u64 (z 0), .int .u64 (z 1), .int .u64 (z 2), .int .u64 (z 3)] := by
      unfold A4
      rw [hz 0 (by decide), hz 1 (by decide), hz 2 (by decide), hz 3 (by decide)]
     rw [← hCe] at eA
     have zz := hN.2.2.2.1
     obtain ⟨n1, n2, n3, n4, n5⟩ := hN
     clear hz hv4 hv hs n2 n3 n4 HLT c66 c70 hCe
     rcases n5 with ⟨rfl, rfl⟩ | ⟨b, off, rfl, hb, hc⟩
     ·obtain rfl : k = 0 := by omega
      rw [zz 0 (by omega), zz 1 (by omega), zz 2 (by omega), zz 3 (by omega)] at eA
      have HEA : Hid (A4 _ = _) := eA
      clear eA
      have hcp := copy0
      go_wp2
      exact bodyPost_ret (v := .agg #[.int .u64 0, .int .u64 0, .int .u64 0, .int .u64 0]) (by simp only [results, Tryz.results90]; go_simp) rfl ⟨by rw [HEA.out], bgo⟩
     ·have e0 : b ≤ wc.heap.size := by omega
      have e1 : b < wc.heap.size + 1 := by omega
      have n0 : ¬ b = wc.heap.size := by omega
      have : k = 0 ∨ k = 1 ∨ k = 2 ∨ k = 3 ∨ k = 4 := by omega
      rcases this with rfl | rfl | rfl | rfl | rfl
      ·rw [zz 0 (by omega), zz 1 (by omega), zz 2 (by omega), zz 3 (by omega)] at eA; have HEA : Hid (A4 _ = _) := eA; clear eA
       clear hc zz
       have hcp := copy0
       go_wp2
       exact bodyPost_ret (v := .agg #[.int .u64 0, .int .u64 0, .int .u64 0, .int .u64 0]) (by simp only [results, Tryz.results90]; go_simp) rfl ⟨by rw [HEA.out], bgo⟩
      ·rw [zz 1 (by omega), zz 2 (by omega), zz 3 (by omega)] at eA; have HEA : Hid (A4 _ = _) := eA; clear eA
       have k0 := hc 0 (by decide)
       simp only [Nat.add_zero] at k0
       clear hc zz
       have hcp := cpy1
       go_wp2
       exact bodyPost_ret (v := .agg #[.int .u64 (z 0), .int .u64 0, .int .u64 0, .int .u64 0]) (by simp only [results, Tryz.results90]; go_simp) rfl ⟨by rw [HEA.out], bgo⟩
      ·rw [zz 2 (by omega), zz 3 (by omega)] at eA; have HEA : Hid (A4 _ = _) := eA; clear eA
       have k0 := hc 0 (by decide)
       have k1 := hc 1 (by decide)
       simp only [Nat.add_zero] at k0
       clear hc zz
       have hcp := cpy2
       go_wp2
       exact bodyPost_ret (v := .agg #[.int .u64 (z 0), .int .u64 (z 1), .int .u64 0, .int .u64 0]) (by simp only [results, Tryz.results90]; go_simp) rfl ⟨by rw [HEA.out], bgo⟩
      ·rw [zz 3 (by omega)] at eA; have HEA : Hid (A4 _ = _) := eA; clear eA
       have k0 := hc 0 (by decide)
       have k1 := hc 1 (by decide)
       have k2 := hc 2 (by decide)
       simp only [Nat.add_zero] at k0
       clear hc zz
       have hcp := cpy3
       go_wp2
       exact bodyPost_ret (v := .agg #[.int .u64 (z 0), .int .u64 (z 1), .int .u64 (z 2), .int .u64 0]) (by simp only [results, Tryz.results90]; go_simp) rfl ⟨by rw [HEA.out], bgo⟩
      ·have HEA : Hid (A4 _ = _) := eA
       clear eA
       have k0 := hc 0 (by decide)
       have k1 := hc 1 (by decide)
       have k2 := hc 2 (by decide)
       have k3 := hc 3 (by decide)
       simp only [Nat.add_zero] at k0
       clear hc zz
       have hcp := cpy4
       go_wp2
       exact bodyPost_ret (v := .agg #[.int .u64 (z 0), .int .u64 (z 1), .int .u64 (z 2), .int .u64 (z 3)]) (by simp only [results, Tryz.results90]; go_simp) rfl ⟨by rw [HEA.out], bgo⟩
   | true =>
    by_cases hz : plA f A = 0
    ·have e : plV f true A = 1 := if_pos ⟨rfl, hz⟩
     have hb0 : ((bl (plA f A) : Int) == 0) = true := by rw [hz]; decide
     go_upto_if 21 with (go_at_call 77; refine (c70 _ _ _ hv5).mono ?_; rintro r w6 ⟨rfl, rfl⟩)
     go_cut [5] from 7 (fun t5 wc => Nz 251 (plV f true A) t5 wc ∧ (∀ i, i < 4 → wc.cell? ⟨w.heap.size + 1 + 1, i, none⟩ = some (.int .u64 0)) ∧ (∀ i, wc.frozen? ⟨w.heap.size + 1 + 1, i, none⟩ = false) ∧ Below w.heap.size w wc ∧ w.heap.size + 1 + 1 < wc.heap.size)
     case first =>
      go_wp2
      go_meet
      exact ⟨by rw [e]; exact nz_one rfl rfl (by decide) (by decide), zeros4 (by go_simp) (by go_simp) (by go_simp) (by go_simp), fun i => by go_simp, bgo, by simp; omega⟩
     case rest =>
      clear hv5 gs fz ffr hbw hsz z0 z1 z2 z3 hl0 hl1
      obtain ⟨hv5, fz, ffr, hbw, hsz⟩ := hcut
      have y0 := fz 0 (by decide)
      have y1 := fz 1 (by decide)
      have y2 := fz 2 (by decide)
      have y3 := fz 3 (by decide)
      obtain ⟨a, k, cap, z, rfl, hk, hN, hv, hs⟩ := nz_open hv5
      clear hv5
      have hC := HLT.out
      obtain ⟨C, hCe⟩ : ∃ C, plV f true A = C := ⟨_, rfl⟩
      rw [hCe] at hC hv
      have hk4 : k ≤ 4 := by
       have := (size_bl (m := 4) hN.2.2.1 hv).2 (bl_le.2 hC)
       omega
      have hv4 : val z 4 = (C : Int) := by rw [val_more hN.2.2.2.1 4 hk4, hv]
      have hz : ∀ i, i < 4 → z i = W4 C i := val_inj hN.2.2.1 (W4_words C) 4 (by rw [hv4, W4_val4 hC])
      have eA : A4 C = .agg #[.int .u64 (z 0), .int .u64 (z 1), .int .u64 (z 2), .int .u64 (z 3)] := by
       unfold A4
       rw [hz 0 (by decide), hz 1 (by decide), hz 2 (by decide), hz 3 (by decide)]
      rw [← hCe] at eA
      have zz := hN.2.2.2.1
      obtain ⟨n1, n2, n3, n4, n5⟩ := hN
      clear hz hv4 hv hs n2 n3 n4 HLT c66 c70 hCe
      rcases n5 with ⟨rfl, rfl⟩ | ⟨b, off, rfl, hb, hc⟩
      ·obtain rfl : k = 0 := by omega
       rw [zz 0 (by omega), zz 1 (by omega), zz 2 (by omega), zz 3 (by omega)] at eA
       have HEA : Hid (A4 _ = _) := eA
       clear eA
       have hcp := copy0
       go_wp2
       exact bodyPost_ret (v := .agg #[.int .u64 0, .int .u64 0, .int .u64 0, .int .u64 0]) (by simp only [results, Tryz.results90]; go_simp) rfl ⟨by rw [HEA.out], bgo⟩
      ·have e0 : b ≤ wc.heap.size := by omega
       have e1 : b < wc.heap.size + 1 := by omega
       have n0 : ¬ b = wc.heap.size := by omega
       have : k = 0 ∨ k = 1 ∨ k = 2 ∨ k = 3 ∨ k = 4 := by omega
       rcases this with rfl | rfl | rfl | rfl | rfl
       ·rw [zz 0 (by omega), zz 1 (by omega), zz 2 (by omega), zz 3 (by omega)] at eA; have HEA : Hid (A4 _ = _) := eA; clear eA
        clear hc zz
        have hcp := copy0
        go_wp2
        exact bodyPost_ret (v := .agg #[.int .u64 0, .int .u64 0, .int .u64 0, .int .u64 0]) (by simp only [results, Tryz.results90]; go_simp) rfl ⟨by rw [HEA.out], bgo⟩
       ·rw [zz 1 (by omega), zz 2 (by omega), zz 3 (by omega)] at eA; have HEA : Hid (A4 _ = _) := eA; clear eA
        have k0 := hc 0 (by decide)
        simp only [Nat.add_zero] at k0
        clear hc zz
        have hcp := cpy1
        go_wp2
        exact bodyPost_ret (v := .agg #[.int .u64 (z 0), .int .u64 0, .int .u64 0, .int .u64 0]) (by simp only [results, Tryz.results90]; go_simp) rfl ⟨by rw [HEA.out], bgo⟩
       ·rw [zz 2 (by omega), zz 3 (by omega)] at eA; have HEA : Hid (A4 _ = _) := eA; clear eA
        have k0 := hc 0 (by decide)
        have k1 := hc 1 (by decide)
        simp only [Nat.add_zero] at k0
        clear hc zz
        have hcp := cpy2
        go_wp2
        exact bodyPost_ret (v := .agg #[.int .u64 (z 0), .int .u64 (z 1), .int .u64 0, .int .u64 0]) (by simp only [results, Tryz.results90]; go_simp) rfl ⟨by rw [HEA.out], bgo⟩
       ·rw [zz 3 (by omega)] at eA; have HEA : Hid (A4 _ = _) := eA; clear eA
        have k0 := hc 0 (by decide)
        have k1 := hc 1 (by decide)
        have k2 := hc 2 (by decide)
        simp only [Nat.add_zero] at k0
        clear hc zz
        have hcp := cpy3
        go_wp2
        exact bodyPost_ret (v := .agg #[.int .u64 (z 0), .int .u64 (z 1), .int .u64 (z 2), .int .u64 0]) (by simp only [results, Tryz.results90]; go_simp) rfl ⟨by rw [HEA.out], bgo⟩
       ·have HEA : Hid (A4 _ = _) := eA
        clear eA
        have k0 := hc 0 (by decide)
        have k1 := hc 1 (by decide)
        have k2 := hc 2 (by decide)
        have k3 := hc 3 (by decide)
        simp only [Nat.add_zero] at k0
        clear hc zz
        have hcp := cpy4
        go_wp2
        exact bodyPost_ret (v := .agg #[.int .u64 (z 0), .int .u64 (z 1), .int .u64 (z 2), .int .u64 (z 3)]) (by simp only [results, Tryz.results90]; go_simp) rfl ⟨by rw [HEA.out], bgo⟩
    ·have e : plV f true A = plA f A := if_neg (by simp [hz])
     have hb0 : ((bl (plA f A) : Int) == 0) = false := by
      rw [beq_eq_false_iff_ne]
      intro h
      exact hz (bl_zero.1 (by omega))
     go_upto_if 21 with (go_at_call 77; refine (c70 _ _ _ hv5).mono ?_; rintro r w6 ⟨rfl, rfl⟩)
     go_cut [5] from 7 (fun t5 wc => Nz 251 (plV f true A) t5 wc ∧ (∀ i, i < 4 → wc.cell? ⟨w.heap.size + 1 + 1, i, none⟩ = some (.int .u64 0)) ∧ (∀ i, wc.frozen? ⟨w.heap.size + 1 + 1, i, none⟩ = false) ∧ Below w.heap.size w wc ∧ w.heap.size + 1 + 1 < wc.heap.size)
     case first =>
      go_wp2
      go_meet
      exact ⟨by rw [e]; exact hv5, fz, ffr, hbw, hsz⟩
     case rest =>
      clear hv5 gs fz ffr hbw hsz z0 z1 z2 z3 hl0 hl1
      obtain ⟨hv5, fz, ffr, hbw, hsz⟩ := hcut
      have y0 := fz 0 (by decide)
      have y1 := fz 1 (by decide)
      have y2 := fz 2 (by decide)
      have y3 := fz 3 (by decide)
      obtain ⟨a, k, cap, z, rfl, hk, hN, hv, hs⟩ := nz_open hv5
      clear hv5
      have hC := HLT.out
      obtain ⟨C, hCe⟩ : ∃ C, plV f true A = C := ⟨_, rfl⟩
      rw [hCe] at hC hv
      have hk4 : k ≤ 4 := by
       have := (size_bl (m := 4) hN.2.2.1 hv).2 (bl_le.2 hC)
       omega
      have hv4 : val z 4 = (C : Int) := by rw [val_more hN.2.2.2.1 4 hk4, hv]
      have hz : ∀ i, i < 4 → z i = W4 C i := val_inj hN.2.2.1 (W4_words C) 4 (by rw [hv4, W4_val4 hC])
      have eA : A4 C = .agg #[.int .u64 (z 0), .int .u64 (z 1), .int .u64 (z 2), .int .u64 (z 3)] := by
       unfold A4
       rw [hz 0 (by decide), hz 1 (by decide), hz 2 (by decide), hz 3 (by decide)]
      rw [← hCe] at eA
      have zz := hN.2.2.2.1
      obtain ⟨n1, n2, n3, n4, n5⟩ := hN
      clear hz hv4 hv hs n2 n3 n4 HLT c66 c70 hCe
      rcases n5 with ⟨rfl, rfl⟩ | ⟨b, off, rfl, hb, hc⟩
      ·obtain rfl : k = 0 := by omega
       rw [zz 0 (by omega), zz 1 (by omega), zz 2 (by omega), zz 3 (by omega)] at eA
       have HEA : Hid (A4 _ = _) := eA
       clear eA
       have hcp := copy0
       go_wp2
       exact bodyPost_ret (v := .agg #[.int .u64 0, .int .u64 0, .int .u64 0, .int .u64 0]) (by simp only [results, Tryz.results90]; go_simp) rfl ⟨by rw [HEA.out], bgo⟩
      ·have e0 : b ≤ wc.heap.size := by omega
       have e1 : b < wc.heap.size + 1 := by omega
       have n0 : ¬ b = wc.heap.size := by omega
       have : k = 0 ∨ k = 1 ∨ k = 2 ∨ k = 3 ∨ k = 4 := by omega
       rcases this with rfl | rfl | rfl | rfl | rfl
       ·rw [zz 0 (by omega), zz 1 (by omega), zz 2 (by omega), zz 3 (by omega)] at eA; have HEA : Hid (A4 _ = _) := eA; clear eA
        clear hc zz
        have hcp := copy0
        go_wp2
        exact bodyPost_ret (v := .agg #[.int .u64 0, .int .u64 0, .int .u64 0, .int .u64 0]) (by simp only [results, Tryz.results90]; go_simp) rfl ⟨by rw [HEA.out], bgo⟩
       ·rw [zz 1 (by omega), zz 2 (by omega), zz 3 (by omega)] at eA; have HEA : Hid (A4 _ = _) := eA; clear eA
        have k0 := hc 0 (by decide)
        simp only [Nat.add_zero] at k0
        clear hc zz
        have hcp := cpy1
        go_wp2
        exact bodyPost_ret (v := .agg #[.int .u64 (z 0), .int .u64 0, .int .u64 0, .int .u64 0]) (by simp only [results, Tryz.results90]; go_simp) rfl ⟨by rw [HEA.out], bgo⟩
       ·rw [zz 2 (by omega), zz 3 (by omega)] at eA; have HEA : Hid (A4 _ = _) := eA; clear eA
        have k0 := hc 0 (by decide)
        have k1 := hc 1 (by decide)
        simp only [Nat.add_zero] at k0
        clear hc zz
        have hcp := cpy2
        go_wp2
        exact bodyPost_ret (v := .agg #[.int .u64 (z 0), .int .u64 (z 1), .int .u64 0, .int .u64 0]) (by simp only [results, Tryz.results90]; go_simp) rfl ⟨by rw [HEA.out], bgo⟩
       ·rw [zz 3 (by omega)] at eA; have HEA : Hid (A4 _ = _) := eA; clear eA
        have k0 := hc 0 (by decide)
        have k1 := hc 1 (by decide)
        have k2 := hc 2 (by decide)
        simp only [Nat.add_zero] at k0
        clear hc zz
        have hcp := cpy3
        go_wp2
        exact bodyPost_ret (v := .agg #[.int .u64 (z 0), .int .u64 (z 1), .int .u64 (z 2), .int .u64 0]) (by simp only [results, Tryz.results90]; go_simp) rfl ⟨by rw [HEA.out], bgo⟩
       ·have HEA : Hid (A4 _ = _) := eA
        clear eA
        have k0 := hc 0 (by decide)
        have k1 := hc 1 (by decide)
        have k2 := hc 2 (by decide)
        have k3 := hc 3 (by decide)
        simp only [Nat.add_zero] at k0
        clear hc zz
        have hcp := cpy4
        go_wp2
        exact bodyPost_ret (v := .agg #[.int .u64 (z 0), .int .u64 (z 1), .int .u64 (z 2), .int .u64 (z 3)]) (by simp only [results, Tryz.results90]; go_simp) rfl ⟨by rw [HEA.out], bgo⟩
end
end
section
theorem payload8 (n : Int) (nm : ByteArray) (wd : Int) (f e : Nat) (l m : Int) (c : Int) (s g : Bool) (d : List UInt8) (x : Int) (w : World) (hf : f ≤ 240) (hd : d.all dg = true) (hl : d.length ≤ 4000) :
  Calls Tryz.prog 90 #[DI n nm wd f e l m, PV c s g d x] w fun r w' => r = .returned (A4 (plV f g (dV d))) ∧ Below w.heap.size w w' :=
 payload_w n nm wd f e l m c s g d x (dV d) w hf (fun W => natural8 d W hd hl) (fun W v V h => nlen_v (by decide) h.nt)
attribute [local irreducible] W4 Nz Nt
section
variable (n d : Int) (c : Int) (s g : Bool) (l : List UInt8) (x e : Int) (A P R : Nat) (F E : Int) (w : World) (hT : Tab w) (heb : -20000 ≤ e ∧ e ≤ 20000)
 (c65 : ∀ W, Calls Tryz.prog 145 #[PV c s g l x] W fun r w' => r = .returned (.int .i64 e) ∧ Below W.heap.size W w')
 (c66 : ∀ W, Calls Tryz.prog 146 #[.string (B l)] W fun r w' => ∃ v, r = .returned v ∧ Nz 251 A v w' ∧ Below W.heap.size W w')
include hT heb c65 c66
end
section
variable (n d : Int) (c : Int) (s g : Bool) (l : List UInt8) (x : Int) (T : List UInt8) (nm : ByteArray) (wd : Int) (f e : Nat) (lo m : Int) (w : World) (hT : Tab w)
include hT
variable (c28 : ∀ W, Tab W → Calls Tryz.prog 47 #[.int .i64 n, .int .i64 d] W fun r w' => r = .returned (.tuple #[DI n nm wd f e lo m, .int .i64 0]) ∧ Below W.heap.size W w')
include c28
variable (c31 : ∀ W, Below w.heap.size w W → Calls Tryz.prog 88 #[PV c s g l x] W fun r w' => r = .returned (.tuple #[.string (B T), .int .i64 0]) ∧ Below W.heap.size W w')
include c31
theorem make_2 (hc : c = 2) (R : Nat) (E : Int) (c34 : ∀ W, Tab W → Calls Tryz.prog 91 #[.int .i64 n, .agg #[.int .i64 2, .bool s, .bool g, .int .i64 0, .int .u64 0, .int .u64 0, .int .u64 0, .int .u64 0]] W fun r w' => r = .returned (.tuple #[A4 R, .int .i64 E]) ∧ Below W.heap.size W w') :
  Calls Tryz.prog 37 #[.int .i64 n, .int .i64 d, PV c s g l x] w fun r w' => r = .returned (.tuple #[A4 R, .int .i64 0, .int .i64 E]) ∧ Below w.heap.size w w' := by
 subst hc
 have hsm := cell_set_map
 unfold PV at *
 go_enter Tryz.func37, Tryz.ntmps37
 go_wp2_with (first
  | (go_at_call 47; refine (c28 _ (hT.go bgo)).mono ?_; rintro r w1 ⟨rfl, hb1⟩; obtain ⟨hc1, hf1, hz1_0, hl1_0, hA1, hs1⟩ := wz w hb1 w.heap.size; obtain ⟨hz1_1, hl1_1⟩ := zf hb1 (w.heap.size + 1); clear hb1)
  | (go_at_call 88; refine (c31 _ bgo).mono ?_; rintro r w2 ⟨rfl, hb2⟩; obtain ⟨hc2, hf2, hz2_0, hl2_0, hA2, hs2⟩ := wz w hb2 w.heap.size; obtain ⟨hz2_1, hl2_1⟩ := zf hb2 (w.heap.size + 1); obtain ⟨hz2_2, hl2_2⟩ := zf hb2 w1.heap.size; clear hb2)
  | (go_at_call 91; refine (c34 _ (hT.go bgo)).mono ?_; rintro r w3 ⟨rfl, hb3⟩; obtain ⟨hc3, hf3, hz3_0, hl3_0, hA3, hs3⟩ := wz w hb3 w.heap.size; obtain ⟨hz3_1, hl3_1⟩ := zf hb3 (w.heap.size + 1); obtain ⟨hz3_2, hl3_2⟩ := zf hb3 w1.heap.size; obtain ⟨hz3_3, hl3_3⟩ := zf hb3 w2.heap.size; clear hb3))
 exact bodyPost_ret (v := .tuple #[A4 R, .int .i64 0, .int .i64 E]) (by simp only [results, Tryz.results37]; go_simp) rfl ⟨rfl, bgo⟩
theorem make_3 (hc : c = 3) (P R : Nat) (E : Int) (c33 : ∀ W, Calls Tryz.prog 90 #[DI n nm wd f e lo m, PV 3 s g l x] W fun r w' => r = .returned (A4 P) ∧ Below W.heap.size W w')
  (c34 : ∀ W, Tab W → Calls Tryz.prog 91 #[.int .i64 n, DV 3 s g 0 P] W fun r w' => r = .returned (.tuple #[A4 R, .int .i64 E]) ∧ Below W.heap.size W w') :
  Calls Tryz.prog 37 #[.int .i64 n, .int .i64 d, PV c s g l x] w fun r w' => r = .returned (.tuple #[A4 R, .int .i64 0, .int .i64 E]) ∧ Below w.heap.size w w' := by
 subst hc
 have hsm := cell_set_map
 unfold PV at *
 go_enter Tryz.func37, Tryz.ntmps37
 go_wp2_with (first
  | (go_at_call 47; refine (c28 _ (hT.go bgo)).mono ?_; rintro r w1 ⟨rfl, hb1⟩; obtain ⟨hc1, hf1, hz1_0, hl1_0, hA1, hs1⟩ := wz w hb1 w.heap.size; obtain ⟨hz1_1, hl1_1⟩ := zf hb1 (w.heap.size + 1); clear hb1)
  | (go_at_call 88; refine (c31 _ bgo).mono ?_; rintro r w2 ⟨rfl, hb2⟩; obtain ⟨hc2, hf2, hz2_0, hl2_0, hA2, hs2⟩ := wz w hb2 w.heap.size; obtain ⟨hz2_1, hl2_1⟩ := zf hb2 (w.heap.size + 1); obtain ⟨hz2_2, hl2_2⟩ := zf hb2 w1.heap.size; clear hb2)
  | (go_at_call 90; refine (c33 _).mono ?_; rintro r w3 ⟨rfl, hb3⟩; obtain ⟨hc3, hf3, hz3_0, hl3_0, hA3, hs3⟩ := wz w hb3 w.heap.size; obtain ⟨hz3_1, hl3_1⟩ := zf hb3 (w.heap.size + 1); obtain ⟨hz3_2, hl3_2⟩ := zf hb3 w1.heap.size; obtain ⟨hz3_3, hl3_3⟩ := zf hb3 w2.heap.size; clear hb3)
  | (go_at_call 91; refine (c34 _ (hT.go bgo)).mono ?_; rintro r w4 ⟨rfl, hb4⟩; obtain ⟨hc4, hf4, hz4_0, hl4_0, hA4, hs4⟩ := wz w hb4 w.heap.size; obtain ⟨hz4_1, hl4_1⟩ := zf hb4 (w.heap.size + 1); obtain ⟨hz4_2, hl4_2⟩ := zf hb4 w1.heap.size; obtain ⟨hz4_3, hl4_3⟩ := zf hb4 w2.heap.size; clear hb4))
 exact bodyPost_ret (v := .tuple #[A4 R, .int .i64 0, .int .i64 E]) (by simp only [results, Tryz.results37]; go_simp) rfl ⟨rfl, bgo⟩
end
end
end Go.Proofs.YtplocajjfoiklaaGreatDoor
