/-
  Texts that the proof leans on, joined: Xb, Xc, Wc, Ri, Lr, Wf.
-/
import Derived.Test.YtplocajjfoiklaaGreatDoorL25
import Derived.Test.YtplocajjfoiklaaGreatDoorL5
import Derived.Test.YtplocajjfoiklaaGreatDoorL1
import Derived.Test.YtplocajjfoiklaaGreatDoorL24
import Derived.Test.YtplocajjfoiklaaGreatDoorL20
import Derived.Test.YtplocajjfoiklaaGreatDoorL23
import Derived.StillTail
import Derived.Below
import Derived.WalkKit
import Derived.Deep.Cut
import Derived.Deep.CutRange
import Derived.Deep.RegionWith
import Derived.Test.YtplocajjfoiklaaGreatDoorL18
import Derived.Test.YtplocajjfoiklaaGreatDoorL19
set_option linter.unusedVariables false
set_option linter.unusedSectionVars false
set_option linter.unusedSimpArgs false
set_option maxRecDepth 20000
namespace Go.Proofs.YtplocajjfoiklaaGreatDoor
open Go.RowKit

/-- the payload as a format takes it -/
def plA (f A : Nat) : Nat := if (f : Int) - 1 < (bl A : Int) then 0 else A
def plV (f : Nat) (g : Bool) (A : Nat) : Nat := if g = true ∧ plA f A = 0 then 1 else plA f A
theorem nz_open {K V : Nat} {v : Value} {w : World} (h : Nz K V v w) : ∃ a k cap z, v = .slice a k cap ∧ k ≤ K ∧ Num w a k cap z ∧ val z k = (V : Int) ∧ sizeL z k = k := h
theorem nz_one {W : World} {g V : Nat} {vi : Int} (hg : g = W.heap.size) (hv : vi = (V : Int)) (hb : V < 18446744073709551616) (h0 : V ≠ 0) : Nz 251 V (.slice (some ⟨g, 0, none⟩) 1 1) (W.alloc (.cells #[.int .u64 vi] 22)) := by
  subst hg hv
  refine ⟨_, 1, 1, oneW V, rfl, by decide, num_one W V (by omega), val_one1 V, ?_⟩
  simp [sizeL, oneW]; omega
theorem nz_next {K V : Nat} {v : Value} {w w' : World} (h : Nz K V v w) (hb : Below w.heap.size w w') : Nz K V v w' := h.next hb
theorem plV_lt {f A : Nat} (g : Bool) (hf : f ≤ 240) : plV f g A < 2 ^ 256 := by
  have h : plA f A < 2 ^ 240 := by
    unfold plA
    split
    · exact Nat.two_pow_pos _
    · rename_i h
      exact bl_le.1 (by omega)
  have h2 : (2 : Nat) ^ 240 < 2 ^ 256 := by decide
  unfold plV
  split
  · decide
  · omega
theorem nz_nil251 (w : World) : Nz 251 0 (.slice none 0 0) w := by
  obtain ⟨a, k, cap, z, e, hk, h1, h2, h3⟩ := nz_open (nz_nil w)
  exact ⟨a, k, cap, z, e, by omega, h1, h2, h3⟩
attribute [local irreducible] W4 Nz Nt
section
variable (n : Int) (nm : ByteArray) (wd : Int) (f e : Nat) (l m : Int) (c : Int) (s g : Bool) (d : List UInt8) (x : Int) (A : Nat) (w : World) (hf : f ≤ 240)
  (c66 : ∀ W, Calls Tryz.prog 146 #[.string (B d)] W fun r w' => ∃ v, r = .returned v ∧ Nz 251 A v w' ∧ Below W.heap.size W w')
  (c70 : ∀ W v V, Nz 251 V v W → Calls Tryz.prog 77 #[v] W fun r w' => r = .returned (.int .i64 (bl V : Int)) ∧ W = w')
include hf c66 c70
set_option maxHeartbeats 8000000 in
theorem payload_w : Calls Tryz.prog 90 #[DI n nm wd f e l m, PV c s g d x] w fun r w' => r = .returned (A4 (plV f g A)) ∧ Below w.heap.size w w' := by
  have hsm := cell_set_map
  have hds : ∀ W : World, W.drew.heap.size = W.heap.size := fun W => by simp
  have HLT : Hid (plV f g A < 2 ^ 256) := plV_lt g hf
  unfold PV
  go_enter Tryz.func90, Tryz.ntmps90
  go_upto_region 2 with (go_at_call 146; refine (c66 _).mono ?_; rintro r w1 ⟨v1, rfl, hv1, hb1⟩; obtain ⟨hc1, hf1⟩ := bcell hb1; have hz1_0 : w.heap.size < w1.heap.size := lt_below hb1 ltg; have hl1_0 := Nat.le_of_lt hz1_0; have hz1_1 : w.heap.size + 1 < w1.heap.size := lt_below hb1 ltg; have hl1_1 := Nat.le_of_lt hz1_1; have hz1_2 : w.heap.size + 2 < w1.heap.size := lt_below hb1 ltg; have hl1_2 := Nat.le_of_lt hz1_2; have hz1_3 : w.heap.size + 1 + 1 < w1.heap.size := lt_below hb1 ltg; have hl1_3 := Nat.le_of_lt hz1_3; have hA1 := bnext (w0 := w) bgo hb1; have hs1 := hA1.size; clear hb1)
  go_cut [14] from 7 (fun t wc => t = .bool (decide ((f : Int) - 1 < (bl A : Int))) ∧ Nz 251 A v1 wc ∧ wc.cell? ⟨w.heap.size + 1, 2, none⟩ = some (.bool g) ∧ (∀ i, i < 4 → wc.cell? ⟨w.heap.size + 1 + 1, i, none⟩ = some (.int .u64 0)) ∧ (∀ i, wc.frozen? ⟨w.heap.size + 1 + 1, i, none⟩ = false) ∧ Below w.heap.size w wc ∧ w.heap.size + 1 + 1 < wc.heap.size)
  case first =>
    go_region_with (go_at_call 77; refine (c70 _ _ _ (nz_next hv1 bgo)).mono ?_; rintro r w6 ⟨rfl, rfl⟩)
    all_goals (
      go_wp2_with fail
      go_meet
      exact ⟨rfl, nz_next hv1 bgo, by go_simp, zeros4 (by go_simp) (by go_simp) (by go_simp) (by go_simp), fun i => by go_simp, bgo, by first | assumption | (simp; done) | (simp; omega) | omega⟩)
  case rest =>
    obtain ⟨ht, hvc, gs, fz, ffr, hbw, hsz⟩ := hcut
    have hl0 : w.heap.size < wc.heap.size := by omega
    have hl1 : w.heap.size + 1 < wc.heap.size := by omega
    have z0 := fz 0 (by decide)
    have z1 := fz 1 (by decide)
    have z2 := fz 2 (by decide)
    have z3 := fz 3 (by decide)
    go_upto_if 14 with fail
    go_cut [5] from 7 (fun t5 wx => Nz 251 (plA f A) t5 wx ∧ wx = wc)
    case first =>
      by_cases hu : (f : Int) - 1 < (bl A : Int)
      · rw [decide_eq_true hu] at ht
        subst ht
        have e : plA f A = 0 := if_pos hu
        go_wp2
        go_meet
        exact ⟨by rw [e]; exact nz_nil251 wc, rfl⟩
      · rw [decide_eq_false hu] at ht
        subst ht
        have e : plA f A = A := if_neg hu
        go_wp2
        go_meet
        exact ⟨by rw [e]; exact hvc, rfl⟩
    case rest =>
      obtain ⟨hv5, rfl⟩ := hcut
      clear hvc ht
      cases g with
      | false =>
        have e : plV f false A = plA f A := if_neg (by simp)
        go_upto_if 21 with fail
        go_cut [5] from 7 (fun t5 wc => Nz 251 (plV f false A) t5 wc ∧ (∀ i, i < 4 → wc.cell? ⟨w.heap.size + 1 + 1, i, none⟩ = some (.int .u64 0)) ∧ (∀ i, wc.frozen? ⟨w.heap.size + 1 + 1, i, none⟩ = false) ∧ Below w.heap.size w wc ∧ w.heap.size + 1 + 1 < wc.heap.size)
        case first =>
          go_wp2
          go_meet
          exact ⟨by rw [e]; exact hv5, fz, ffr, hbw, hsz⟩
        case rest =>
          clear hv5 gs fz ffr hbw hsz z0 z1 z2 z3 hl0 hl1
          obtain ⟨hv5, fz, ffr, hbw, hsz⟩ := hcut
          have y0 := fz 0 (by decide)
          have y1 := fz 1 (by decide)
          have y2 := fz 2 (by decide)
          have y3 := fz 3 (by decide)
          obtain ⟨a, k, cap, z, rfl, hk, hN, hv, hs⟩ := nz_open hv5
          clear hv5
          have hC := HLT.out
          obtain ⟨C, hCe⟩ : ∃ C, plV f false A = C := ⟨_, rfl⟩
          rw [hCe] at hC hv
          have hk4 : k ≤ 4 := by
            have := (size_bl (m := 4) hN.2.2.1 hv).2 (bl_le.2 hC)
            omega
          have hv4 : val z 4 = (C : Int) := by rw [val_more hN.2.2.2.1 4 hk4, hv]
          have hz : ∀ i, i < 4 → z i = W4 C i := val_inj hN.2.2.1 (W4_words C) 4 (by rw [hv4, W4_val4 hC])
          have eA : A4 C = .agg #[.int .u64 (z 0), .int .u64 (z 1), .int .u64 (z 2), .int .u64 (z 3)] := by
            unfold A4
            rw [hz 0 (by decide), hz 1 (by decide), hz 2 (by decide), hz 3 (by decide)]
          rw [← hCe] at eA
          have zz := hN.2.2.2.1
          obtain ⟨n1, n2, n3, n4, n5⟩ := hN
          clear hz hv4 hv hs n2 n3 n4 HLT c66 c70 hCe
          rcases n5 with ⟨rfl, rfl⟩ | ⟨b, off, rfl, hb, hc⟩
          · obtain rfl : k = 0 := by omega
            rw [zz 0 (by omega), zz 1 (by omega), zz 2 (by omega), zz 3 (by omega)] at eA
            have HEA : Hid (A4 _ = _) := eA
            clear eA
            have hcp := copy0
            go_wp2
            exact bodyPost_ret (v := .agg #[.int .u64 0, .int .u64 0, .int .u64 0, .int .u64 0]) (by simp only [results, Tryz.results90]; go_simp) rfl ⟨by rw [HEA.out], bgo⟩
          · have e0 : b ≤ wc.heap.size := by omega
            have e1 : b < wc.heap.size + 1 := by omega
            have n0 : ¬ b = wc.heap.size := by omega
            have : k = 0 ∨ k = 1 ∨ k = 2 ∨ k = 3 ∨ k = 4 := by omega
            rcases this with rfl | rfl | rfl | rfl | rfl
            · rw [zz 0 (by omega), zz 1 (by omega), zz 2 (by omega), zz 3 (by omega)] at eA; have HEA : Hid (A4 _ = _) := eA; clear eA
              clear hc zz
              have hcp := copy0
              go_wp2
              exact bodyPost_ret (v := .agg #[.int .u64 0, .int .u64 0, .int .u64 0, .int .u64 0]) (by simp only [results, Tryz.results90]; go_simp) rfl ⟨by rw [HEA.out], bgo⟩
            · rw [zz 1 (by omega), zz 2 (by omega), zz 3 (by omega)] at eA; have HEA : Hid (A4 _ = _) := eA; clear eA
              have k0 := hc 0 (by decide)
              simp only [Nat.add_zero] at k0
              clear hc zz
              have hcp := cpy1
              go_wp2
              exact bodyPost_ret (v := .agg #[.int .u64 (z 0), .int .u64 0, .int .u64 0, .int .u64 0]) (by simp only [results, Tryz.results90]; go_simp) rfl ⟨by rw [HEA.out], bgo⟩
            · rw [zz 2 (by omega), zz 3 (by omega)] at eA; have HEA : Hid (A4 _ = _) := eA; clear eA
              have k0 := hc 0 (by decide)
              have k1 := hc 1 (by decide)
              simp only [Nat.add_zero] at k0
              clear hc zz
              have hcp := cpy2
              go_wp2
              exact bodyPost_ret (v := .agg #[.int .u64 (z 0), .int .u64 (z 1), .int .u64 0, .int .u64 0]) (by simp only [results, Tryz.results90]; go_simp) rfl ⟨by rw [HEA.out], bgo⟩
            · rw [zz 3 (by omega)] at eA; have HEA : Hid (A4 _ = _) := eA; clear eA
              have k0 := hc 0 (by decide)
              have k1 := hc 1 (by decide)
              have k2 := hc 2 (by decide)
              simp only [Nat.add_zero] at k0
              clear hc zz
              have hcp := cpy3
              go_wp2
              exact bodyPost_ret (v := .agg #[.int .u64 (z 0), .int .u64 (z 1), .int .u64 (z 2), .int .u64 0]) (by simp only [results, Tryz.results90]; go_simp) rfl ⟨by rw [HEA.out], bgo⟩
            · have HEA : Hid (A4 _ = _) := eA
              clear eA
              have k0 := hc 0 (by decide)
              have k1 := hc 1 (by decide)
              have k2 := hc 2 (by decide)
              have k3 := hc 3 (by decide)
              simp only [Nat.add_zero] at k0
              clear hc zz
              have hcp := cpy4
              go_wp2
              exact bodyPost_ret (v := .agg #[.int .u64 (z 0), .int .u64 (z 1), .int .u64 (z 2), .int .u64 (z 3)]) (by simp only [results, Tryz.results90]; go_simp) rfl ⟨by rw [HEA.out], bgo⟩
      | true =>
        by_cases hz : plA f A = 0
        · have e : plV f true A = 1 := if_pos ⟨rfl, hz⟩
          have hb0 : ((bl (plA f A) : Int) == 0) = true := by rw [hz]; decide
          go_upto_if 21 with (go_at_call 77; refine (c70 _ _ _ hv5).mono ?_; rintro r w6 ⟨rfl, rfl⟩)
          go_cut [5] from 7 (fun t5 wc => Nz 251 (plV f true A) t5 wc ∧ (∀ i, i < 4 → wc.cell? ⟨w.heap.size + 1 + 1, i, none⟩ = some (.int .u64 0)) ∧ (∀ i, wc.frozen? ⟨w.heap.size + 1 + 1, i, none⟩ = false) ∧ Below w.heap.size w wc ∧ w.heap.size + 1 + 1 < wc.heap.size)
          case first =>
            go_wp2
            go_meet
            exact ⟨by rw [e]; exact nz_one rfl rfl (by decide) (by decide), zeros4 (by go_simp) (by go_simp) (by go_simp) (by go_simp), fun i => by go_simp, bgo, by simp; omega⟩
          case rest =>
            clear hv5 gs fz ffr hbw hsz z0 z1 z2 z3 hl0 hl1
            obtain ⟨hv5, fz, ffr, hbw, hsz⟩ := hcut
            have y0 := fz 0 (by decide)
            have y1 := fz 1 (by decide)
            have y2 := fz 2 (by decide)
            have y3 := fz 3 (by decide)
            obtain ⟨a, k, cap, z, rfl, hk, hN, hv, hs⟩ := nz_open hv5
            clear hv5
            have hC := HLT.out
            obtain ⟨C, hCe⟩ : ∃ C, plV f true A = C := ⟨_, rfl⟩
            rw [hCe] at hC hv
            have hk4 : k ≤ 4 := by
              have := (size_bl (m := 4) hN.2.2.1 hv).2 (bl_le.2 hC)
              omega
            have hv4 : val z 4 = (C : Int) := by rw [val_more hN.2.2.2.1 4 hk4, hv]
            have hz : ∀ i, i < 4 → z i = W4 C i := val_inj hN.2.2.1 (W4_words C) 4 (by rw [hv4, W4_val4 hC])
            have eA : A4 C = .agg #[.int .u64 (z 0), .int .u64 (z 1), .int .u64 (z 2), .int .u64 (z 3)] := by
              unfold A4
              rw [hz 0 (by decide), hz 1 (by decide), hz 2 (by decide), hz 3 (by decide)]
            rw [← hCe] at eA
            have zz := hN.2.2.2.1
            obtain ⟨n1, n2, n3, n4, n5⟩ := hN
            clear hz hv4 hv hs n2 n3 n4 HLT c66 c70 hCe
            rcases n5 with ⟨rfl, rfl⟩ | ⟨b, off, rfl, hb, hc⟩
            · obtain rfl : k = 0 := by omega
              rw [zz 0 (by omega), zz 1 (by omega), zz 2 (by omega), zz 3 (by omega)] at eA
              have HEA : Hid (A4 _ = _) := eA
              clear eA
              have hcp := copy0
              go_wp2
              exact bodyPost_ret (v := .agg #[.int .u64 0, .int .u64 0, .int .u64 0, .int .u64 0]) (by simp only [results, Tryz.results90]; go_simp) rfl ⟨by rw [HEA.out], bgo⟩
            · have e0 : b ≤ wc.heap.size := by omega
              have e1 : b < wc.heap.size + 1 := by omega
              have n0 : ¬ b = wc.heap.size := by omega
              have : k = 0 ∨ k = 1 ∨ k = 2 ∨ k = 3 ∨ k = 4 := by omega
              rcases this with rfl | rfl | rfl | rfl | rfl
              · rw [zz 0 (by omega), zz 1 (by omega), zz 2 (by omega), zz 3 (by omega)] at eA; have HEA : Hid (A4 _ = _) := eA; clear eA
                clear hc zz
                have hcp := copy0
                go_wp2
                exact bodyPost_ret (v := .agg #[.int .u64 0, .int .u64 0, .int .u64 0, .int .u64 0]) (by simp only [results, Tryz.results90]; go_simp) rfl ⟨by rw [HEA.out], bgo⟩
              · rw [zz 1 (by omega), zz 2 (by omega), zz 3 (by omega)] at eA; have HEA : Hid (A4 _ = _) := eA; clear eA
                have k0 := hc 0 (by decide)
                simp only [Nat.add_zero] at k0
                clear hc zz
                have hcp := cpy1
                go_wp2
                exact bodyPost_ret (v := .agg #[.int .u64 (z 0), .int .u64 0, .int .u64 0, .int .u64 0]) (by simp only [results, Tryz.results90]; go_simp) rfl ⟨by rw [HEA.out], bgo⟩
              · rw [zz 2 (by omega), zz 3 (by omega)] at eA; have HEA : Hid (A4 _ = _) := eA; clear eA
                have k0 := hc 0 (by decide)
                have k1 := hc 1 (by decide)
                simp only [Nat.add_zero] at k0
                clear hc zz
                have hcp := cpy2
                go_wp2
                exact bodyPost_ret (v := .agg #[.int .u64 (z 0), .int .u64 (z 1), .int .u64 0, .int .u64 0]) (by simp only [results, Tryz.results90]; go_simp) rfl ⟨by rw [HEA.out], bgo⟩
              · rw [zz 3 (by omega)] at eA; have HEA : Hid (A4 _ = _) := eA; clear eA
                have k0 := hc 0 (by decide)
                have k1 := hc 1 (by decide)
                have k2 := hc 2 (by decide)
                simp only [Nat.add_zero] at k0
                clear hc zz
                have hcp := cpy3
                go_wp2
                exact bodyPost_ret (v := .agg #[.int .u64 (z 0), .int .u64 (z 1), .int .u64 (z 2), .int .u64 0]) (by simp only [results, Tryz.results90]; go_simp) rfl ⟨by rw [HEA.out], bgo⟩
              · have HEA : Hid (A4 _ = _) := eA
                clear eA
                have k0 := hc 0 (by decide)
                have k1 := hc 1 (by decide)
                have k2 := hc 2 (by decide)
                have k3 := hc 3 (by decide)
                simp only [Nat.add_zero] at k0
                clear hc zz
                have hcp := cpy4
                go_wp2
                exact bodyPost_ret (v := .agg #[.int .u64 (z 0), .int .u64 (z 1), .int .u64 (z 2), .int .u64 (z 3)]) (by simp only [results, Tryz.results90]; go_simp) rfl ⟨by rw [HEA.out], bgo⟩
        · have e : plV f true A = plA f A := if_neg (by simp [hz])
          have hb0 : ((bl (plA f A) : Int) == 0) = false := by
            rw [beq_eq_false_iff_ne]
            intro h
            exact hz (bl_zero.1 (by omega))
          go_upto_if 21 with (go_at_call 77; refine (c70 _ _ _ hv5).mono ?_; rintro r w6 ⟨rfl, rfl⟩)
          go_cut [5] from 7 (fun t5 wc => Nz 251 (plV f true A) t5 wc ∧ (∀ i, i < 4 → wc.cell? ⟨w.heap.size + 1 + 1, i, none⟩ = some (.int .u64 0)) ∧ (∀ i, wc.frozen? ⟨w.heap.size + 1 + 1, i, none⟩ = false) ∧ Below w.heap.size w wc ∧ w.heap.size + 1 + 1 < wc.heap.size)
          case first =>
            go_wp2
            go_meet
            exact ⟨by rw [e]; exact hv5, fz, ffr, hbw, hsz⟩
          case rest =>
            clear hv5 gs fz ffr hbw hsz z0 z1 z2 z3 hl0 hl1
            obtain ⟨hv5, fz, ffr, hbw, hsz⟩ := hcut
            have y0 := fz 0 (by decide)
            have y1 := fz 1 (by decide)
            have y2 := fz 2 (by decide)
            have y3 := fz 3 (by decide)
            obtain ⟨a, k, cap, z, rfl, hk, hN, hv, hs⟩ := nz_open hv5
            clear hv5
            have hC := HLT.out
            obtain ⟨C, hCe⟩ : ∃ C, plV f true A = C := ⟨_, rfl⟩
            rw [hCe] at hC hv
            have hk4 : k ≤ 4 := by
              have := (size_bl (m := 4) hN.2.2.1 hv).2 (bl_le.2 hC)
              omega
            have hv4 : val z 4 = (C : Int) := by rw [val_more hN.2.2.2.1 4 hk4, hv]
            have hz : ∀ i, i < 4 → z i = W4 C i := val_inj hN.2.2.1 (W4_words C) 4 (by rw [hv4, W4_val4 hC])
            have eA : A4 C = .agg #[.int .u64 (z 0), .int .u64 (z 1), .int .u64 (z 2), .int .u64 (z 3)] := by
              unfold A4
              rw [hz 0 (by decide), hz 1 (by decide), hz 2 (by decide), hz 3 (by decide)]
            rw [← hCe] at eA
            have zz := hN.2.2.2.1
            obtain ⟨n1, n2, n3, n4, n5⟩ := hN
            clear hz hv4 hv hs n2 n3 n4 HLT c66 c70 hCe
            rcases n5 with ⟨rfl, rfl⟩ | ⟨b, off, rfl, hb, hc⟩
            · obtain rfl : k = 0 := by omega
              rw [zz 0 (by omega), zz 1 (by omega), zz 2 (by omega), zz 3 (by omega)] at eA
              have HEA : Hid (A4 _ = _) := eA
              clear eA
              have hcp := copy0
              go_wp2
              exact bodyPost_ret (v := .agg #[.int .u64 0, .int .u64 0, .int .u64 0, .int .u64 0]) (by simp only [results, Tryz.results90]; go_simp) rfl ⟨by rw [HEA.out], bgo⟩
            · have e0 : b ≤ wc.heap.size := by omega
              have e1 : b < wc.heap.size + 1 := by omega
              have n0 : ¬ b = wc.heap.size := by omega
              have : k = 0 ∨ k = 1 ∨ k = 2 ∨ k = 3 ∨ k = 4 := by omega
              rcases this with rfl | rfl | rfl | rfl | rfl
              · rw [zz 0 (by omega), zz 1 (by omega), zz 2 (by omega), zz 3 (by omega)] at eA; have HEA : Hid (A4 _ = _) := eA; clear eA
                clear hc zz
                have hcp := copy0
                go_wp2
                exact bodyPost_ret (v := .agg #[.int .u64 0, .int .u64 0, .int .u64 0, .int .u64 0]) (by simp only [results, Tryz.results90]; go_simp) rfl ⟨by rw [HEA.out], bgo⟩
              · rw [zz 1 (by omega), zz 2 (by omega), zz 3 (by omega)] at eA; have HEA : Hid (A4 _ = _) := eA; clear eA
                have k0 := hc 0 (by decide)
                simp only [Nat.add_zero] at k0
                clear hc zz
                have hcp := cpy1
                go_wp2
                exact bodyPost_ret (v := .agg #[.int .u64 (z 0), .int .u64 0, .int .u64 0, .int .u64 0]) (by simp only [results, Tryz.results90]; go_simp) rfl ⟨by rw [HEA.out], bgo⟩
              · rw [zz 2 (by omega), zz 3 (by omega)] at eA; have HEA : Hid (A4 _ = _) := eA; clear eA
                have k0 := hc 0 (by decide)
                have k1 := hc 1 (by decide)
                simp only [Nat.add_zero] at k0
                clear hc zz
                have hcp := cpy2
                go_wp2
                exact bodyPost_ret (v := .agg #[.int .u64 (z 0), .int .u64 (z 1), .int .u64 0, .int .u64 0]) (by simp only [results, Tryz.results90]; go_simp) rfl ⟨by rw [HEA.out], bgo⟩
              · rw [zz 3 (by omega)] at eA; have HEA : Hid (A4 _ = _) := eA; clear eA
                have k0 := hc 0 (by decide)
                have k1 := hc 1 (by decide)
                have k2 := hc 2 (by decide)
                simp only [Nat.add_zero] at k0
                clear hc zz
                have hcp := cpy3
                go_wp2
                exact bodyPost_ret (v := .agg #[.int .u64 (z 0), .int .u64 (z 1), .int .u64 (z 2), .int .u64 0]) (by simp only [results, Tryz.results90]; go_simp) rfl ⟨by rw [HEA.out], bgo⟩
              · have HEA : Hid (A4 _ = _) := eA
                clear eA
                have k0 := hc 0 (by decide)
                have k1 := hc 1 (by decide)
                have k2 := hc 2 (by decide)
                have k3 := hc 3 (by decide)
                simp only [Nat.add_zero] at k0
                clear hc zz
                have hcp := cpy4
                go_wp2
                exact bodyPost_ret (v := .agg #[.int .u64 (z 0), .int .u64 (z 1), .int .u64 (z 2), .int .u64 (z 3)]) (by simp only [results, Tryz.results90]; go_simp) rfl ⟨by rw [HEA.out], bgo⟩
end
end Go.Proofs.YtplocajjfoiklaaGreatDoor

namespace Go.Proofs.YtplocajjfoiklaaGreatDoor
open Go.RowKit

theorem payload8 (n : Int) (nm : ByteArray) (wd : Int) (f e : Nat) (l m : Int) (c : Int) (s g : Bool) (d : List UInt8) (x : Int) (w : World) (hf : f ≤ 240) (hd : d.all dg = true) (hl : d.length ≤ 4000) :
    Calls Tryz.prog 90 #[DI n nm wd f e l m, PV c s g d x] w fun r w' => r = .returned (A4 (plV f g (dV d))) ∧ Below w.heap.size w w' :=
  payload_w n nm wd f e l m c s g d x (dV d) w hf (fun W => natural8 d W hd hl) (fun W v V h => nlen_v (by decide) h.nt)
theorem five_bl (k : Nat) : bl (5 ^ k) ≤ 3 * k + 1 := by
  refine bl_le.2 ?_
  have h1 : 5 ^ k ≤ 8 ^ k := Nat.pow_le_pow_left (by decide) k
  have h2 : (8 : Nat) ^ k = 2 ^ (3 * k) := by rw [Nat.pow_mul]
  have h3 : (2 : Nat) ^ (3 * k) < 2 ^ (3 * k + 1) := Nat.pow_lt_pow_right (by decide) (by omega)
  omega
theorem bl_mul (a b : Nat) : bl (a * b) ≤ bl a + bl b := by
  refine bl_le.2 ?_
  rw [Nat.pow_add]
  have h1 := bl_le.1 (Nat.le_refl (bl a))
  have h2 := bl_le.1 (Nat.le_refl (bl b))
  exact Nat.mul_lt_mul'' h1 h2
theorem npow5 (m : Nat) (w : World) (hm : m ≤ 12000) : Calls Tryz.prog 147 #[.int .i64 5, .int .i64 (m : Int)] w fun r w' => ∃ v, r = .returned (.tuple #[v, .int .i64 0]) ∧ Nt 2001 (5 ^ m) v w' ∧ Below w.heap.size w w' := by
  refine (npow_any 5 m w (Or.inl rfl) hm).mono fun r w' ⟨g, k, cap, z, e1, hk, hN, hv, hs, hB⟩ => ⟨_, e1, ⟨_, k, cap, z, rfl, hk, hN, ?_⟩, hB⟩
  rw [hv]; simp
theorem nmul_v {A P : Nat} {v v' : Value} {w : World} (h : Nz 251 A v w) (h' : Nt 2001 P v' w) (hA : bl A ≤ 64 * 251) (hP : bl P ≤ 64 * 1500) :
    Calls Tryz.prog 148 #[v, v'] w fun r w' => ∃ q, r = .returned (.tuple #[q, .int .i64 0]) ∧ Nt 2001 (A * P) q w' ∧ Below w.heap.size w w' := by
  obtain ⟨a, k, cap, z, rfl, hk, hN, hv, hs⟩ := h
  obtain ⟨a', k', cap', z', rfl, hk', hN', hv'⟩ := h'
  have s1 := (size_bl (m := 251) hN.2.2.1 hv).2 hA
  have s2 := (size_bl (m := 1500) hN'.2.2.1 hv').2 hP
  have hm : ¬ 2000 < sizeL z k + sizeL z' k' := by omega
  have c := nmul_all a a' k cap k' cap' z z' w (by omega) (by omega) hN hN'
  unfold mulE mulV at c
  rw [if_neg hm, if_neg hm] at c
  refine c.mono fun r w' ⟨o, q, cp, y, e1, hq, hNq, hvq, hsq, hB⟩ => ⟨_, e1, ⟨_, q, cp, y, rfl, by omega, hNq, ?_⟩, hB⟩
  rw [hvq, hv, hv']; simp
attribute [local irreducible] W4 Nz Nt
section
variable (n d : Int) (c : Int) (s g : Bool) (l : List UInt8) (x e : Int) (A P R : Nat) (F E : Int) (w : World) (hT : Tab w) (heb : -20000 ≤ e ∧ e ≤ 20000)
  (c65 : ∀ W, Calls Tryz.prog 145 #[PV c s g l x] W fun r w' => r = .returned (.int .i64 e) ∧ Below W.heap.size W w')
  (c66 : ∀ W, Calls Tryz.prog 146 #[.string (B l)] W fun r w' => ∃ v, r = .returned v ∧ Nz 251 A v w' ∧ Below W.heap.size W w')
include hT heb c65 c66
set_option maxHeartbeats 4000000 in
theorem fin8_neg (he : e < 0)
    (c67 : ∀ W k, k = -e → Calls Tryz.prog 147 #[.int .i64 5, .int .i64 k] W fun r w' => ∃ v, r = .returned (.tuple #[v, .int .i64 0]) ∧ Nt 2001 P v w' ∧ Below W.heap.size W w')
    (c69 : ∀ W v v', Tab W → Nz 251 A v W → Nt 2001 P v' W → Calls Tryz.prog 35 #[.int .i64 n, .int .i64 d, .bool s, v, v', .int .i64 e] W fun r w' => r = .returned (.tuple #[A4 R, .int .i64 F, .int .i64 E]) ∧ Below W.heap.size W w') :
    Calls Tryz.prog 89 #[.int .i64 n, .int .i64 d, PV c s g l x] w fun r w' => r = .returned (.tuple #[A4 R, .int .i64 F, .int .i64 E]) ∧ Below w.heap.size w w' := by
  have hsm := cell_set_map
  unfold PV at *
  go_enter Tryz.func89, Tryz.ntmps89
  go_wp2_with (first
    | (go_at_call 145; refine (c65 _).mono ?_; rintro r w1 ⟨rfl, hb1⟩; obtain ⟨hc1, hf1⟩ := bcell hb1; have hz1_0 : w.heap.size < w1.heap.size := lt_below hb1 ltg; have hl1_0 := Nat.le_of_lt hz1_0; have hz1_1 : w.heap.size + 1 < w1.heap.size := lt_below hb1 ltg; have hl1_1 := Nat.le_of_lt hz1_1; have hA1 := bnext (w0 := w) bgo hb1; have hs1 := hA1.size; clear hb1)
    | (go_at_call 146; refine (c66 _).mono ?_; rintro r w2 ⟨v2, rfl, hv2, hb2⟩; obtain ⟨hc2, hf2⟩ := bcell hb2; have hz2_0 : w.heap.size < w2.heap.size := lt_below hb2 ltg; have hl2_0 := Nat.le_of_lt hz2_0; have hz2_1 : w.heap.size + 1 < w2.heap.size := lt_below hb2 ltg; have hl2_1 := Nat.le_of_lt hz2_1; have hA2 := bnext (w0 := w) bgo hb2; have hs2 := hA2.size; clear hb2)
    | (go_at_call 147; refine (c67 _ _ (by omega)).mono ?_; rintro r w3 ⟨v3, rfl, hv3, hb3⟩; have hv2' := hv2.next ((below1 w2 _).trans (hb3.mono (by simp))); obtain ⟨hc3, hf3⟩ := bcell hb3; have hz3_0 : w.heap.size < w3.heap.size := lt_below hb3 ltg; have hl3_0 := Nat.le_of_lt hz3_0; have hz3_1 : w.heap.size + 1 < w3.heap.size := lt_below hb3 ltg; have hl3_1 := Nat.le_of_lt hz3_1; have hA3 := bnext (w0 := w) bgo hb3; have hs3 := hA3.size; clear hb3)
    | (go_at_call 35; refine (c69 _ _ _ (hT.go bgo) hv2' hv3).mono ?_; rintro r w4 ⟨rfl, hb4⟩; obtain ⟨hc4, hf4⟩ := bcell hb4; have hz4_0 : w.heap.size < w4.heap.size := lt_below hb4 ltg; have hl4_0 := Nat.le_of_lt hz4_0; have hz4_1 : w.heap.size + 1 < w4.heap.size := lt_below hb4 ltg; have hl4_1 := Nat.le_of_lt hz4_1; have hA4 := bnext (w0 := w) bgo hb4; have hs4 := hA4.size; clear hb4))
  exact bodyPost_ret (v := .tuple #[A4 R, .int .i64 F, .int .i64 E]) (by simp only [results, Tryz.results89]; go_simp) rfl ⟨rfl, bgo⟩
set_option maxHeartbeats 4000000 in
theorem fin8_pos (he : ¬ e < 0)
    (c67 : ∀ W, Calls Tryz.prog 147 #[.int .i64 5, .int .i64 e] W fun r w' => ∃ v, r = .returned (.tuple #[v, .int .i64 0]) ∧ Nt 2001 P v w' ∧ Below W.heap.size W w')
    (c68 : ∀ W v v', Nz 251 A v W → Nt 2001 P v' W → Calls Tryz.prog 148 #[v, v'] W fun r w' => ∃ q, r = .returned (.tuple #[q, .int .i64 0]) ∧ Nt 2001 (A * P) q w' ∧ Below W.heap.size W w')
    (c69 : ∀ W v v', Tab W → Nt 2001 (A * P) v W → Nt 2001 1 v' W → Calls Tryz.prog 35 #[.int .i64 n, .int .i64 d, .bool s, v, v', .int .i64 e] W fun r w' => r = .returned (.tuple #[A4 R, .int .i64 F, .int .i64 E]) ∧ Below W.heap.size W w') :
    Calls Tryz.prog 89 #[.int .i64 n, .int .i64 d, PV c s g l x] w fun r w' => r = .returned (.tuple #[A4 R, .int .i64 F, .int .i64 E]) ∧ Below w.heap.size w w' := by
  have hsm := cell_set_map
  unfold PV at *
  go_enter Tryz.func89, Tryz.ntmps89
  go_wp2_with (first
    | (go_at_call 145; refine (c65 _).mono ?_; rintro r w1 ⟨rfl, hb1⟩; obtain ⟨hc1, hf1⟩ := bcell hb1; have hz1_0 : w.heap.size < w1.heap.size := lt_below hb1 ltg; have hl1_0 := Nat.le_of_lt hz1_0; have hz1_1 : w.heap.size + 1 < w1.heap.size := lt_below hb1 ltg; have hl1_1 := Nat.le_of_lt hz1_1; have hA1 := bnext (w0 := w) bgo hb1; have hs1 := hA1.size; clear hb1)
    | (go_at_call 146; refine (c66 _).mono ?_; rintro r w2 ⟨v2, rfl, hv2, hb2⟩; obtain ⟨hc2, hf2⟩ := bcell hb2; have hz2_0 : w.heap.size < w2.heap.size := lt_below hb2 ltg; have hl2_0 := Nat.le_of_lt hz2_0; have hz2_1 : w.heap.size + 1 < w2.heap.size := lt_below hb2 ltg; have hl2_1 := Nat.le_of_lt hz2_1; have hA2 := bnext (w0 := w) bgo hb2; have hs2 := hA2.size; clear hb2; have hone : Nt 2001 1 (.slice (some ⟨w2.heap.size, 0, none⟩) 1 1) (w2.alloc (.cells #[.int .u64 1] 22)) := (nt_one rfl rfl (by decide)).more (by decide); have hv2a := hv2.next (below1 w2 (.cells #[.int .u64 1] 22)))
    | (go_at_call 147; refine (c67 _).mono ?_; rintro r w3 ⟨v3, rfl, hv3, hb3⟩; have hv2' := hv2a.next hb3; have hone' := hone.next hb3; obtain ⟨hc3, hf3⟩ := bcell hb3; have hz3_0 : w.heap.size < w3.heap.size := lt_below hb3 ltg; have hl3_0 := Nat.le_of_lt hz3_0; have hz3_1 : w.heap.size + 1 < w3.heap.size := lt_below hb3 ltg; have hl3_1 := Nat.le_of_lt hz3_1; have hA3 := bnext (w0 := w) bgo hb3; have hs3 := hA3.size; clear hb3)
    | (go_at_call 148; refine (c68 _ _ _ hv2' hv3).mono ?_; rintro r w5 ⟨v5, rfl, hv5, hb5⟩; have hone2 := hone'.next hb5; obtain ⟨hc5, hf5⟩ := bcell hb5; have hz5_0 : w.heap.size < w5.heap.size := lt_below hb5 ltg; have hl5_0 := Nat.le_of_lt hz5_0; have hz5_1 : w.heap.size + 1 < w5.heap.size := lt_below hb5 ltg; have hl5_1 := Nat.le_of_lt hz5_1; have hA5 := bnext (w0 := w) bgo hb5; have hs5 := hA5.size; clear hb5)
    | (go_at_call 35; refine (c69 _ _ _ (hT.go bgo) hv5 hone2).mono ?_; rintro r w4 ⟨rfl, hb4⟩; obtain ⟨hc4, hf4⟩ := bcell hb4; have hz4_0 : w.heap.size < w4.heap.size := lt_below hb4 ltg; have hl4_0 := Nat.le_of_lt hz4_0; have hz4_1 : w.heap.size + 1 < w4.heap.size := lt_below hb4 ltg; have hl4_1 := Nat.le_of_lt hz4_1; have hA4 := bnext (w0 := w) bgo hb4; have hs4 := hA4.size; clear hb4))
  exact bodyPost_ret (v := .tuple #[A4 R, .int .i64 F, .int .i64 E]) (by simp only [results, Tryz.results89]; go_simp) rfl ⟨rfl, bgo⟩
end
theorem nz_nt {K V : Nat} {v : Value} {w : World} (h : Nz K V v w) (hK : K ≤ 2001) : Nt 2001 V v w := h.nt.more hK
/-- a finite number, rounded -/
theorem finite8 (n d : Int) (c : Int) (s g : Bool) (l : List UInt8) (x : Int) (w : World) (hT : Tab w) (hb : binN n) (hk : knB d) (hd : l.all dg = true) (hl : l.length ≤ 4000) :
    Calls Tryz.prog 89 #[.int .i64 n, .int .i64 d, PV c s g l x] w fun r w' => r = .returned (.tuple #[A4 (rdV n d s (tN (dV l) (pwE l.length x)) (tD (pwE l.length x)) (pwE l.length x)), .int .i64 (rdF n d s (tN (dV l) (pwE l.length x)) (tD (pwE l.length x)) (pwE l.length x)), .int .i64 0]) ∧ Below w.heap.size w w' := by
  have hpw : -10000 ≤ pwE l.length x ∧ pwE l.length x ≤ 6000 := by unfold pwE; omega
  have c65 := fun W => within8 c s g l x W hl
  have c66 := fun W => natural8 l W hd hl
  have hA : bl (dV l) ≤ 64 * 250 := bl_10 (dV_lt hd).1 (by omega)
  generalize pwE l.length x = e at *
  by_cases he : e < 0
  · have hm := five_bl (-e).toNat
    have e1 : tN (dV l) e = dV l := by unfold tN; rw [show e.toNat = 0 by omega, Nat.pow_zero, Nat.mul_one]
    have e2 : tD e = 5 ^ (-e).toNat := rfl
    rw [e1, e2]
    refine fin8_neg n d c s g l x e (dV l) (5 ^ (-e).toNat) _ _ _ w hT (by omega) c65 c66 he (fun W k hk' => ?_) (fun W v v' hT' hv hv' => ?_)
    · have := npow5 (-e).toNat W (by omega)
      rw [show (((-e).toNat : Nat) : Int) = k by omega] at this
      exact this
    · exact rnd_good n d e s hT' (nz_nt hv (by decide)) hv' hb hk (Nat.pos_iff_ne_zero.1 (Nat.pow_pos (by decide))) (by omega) (by omega)
  · have hm := five_bl e.toNat
    have e1 : tD e = 1 := by unfold tD; rw [show (-e).toNat = 0 by omega, Nat.pow_zero]
    have e2 : tN (dV l) e = dV l * 5 ^ e.toNat := rfl
    rw [e1, e2]
    have hbm := bl_mul (dV l) (5 ^ e.toNat)
    refine fin8_pos n d c s g l x e (dV l) (5 ^ e.toNat) _ _ _ w hT (by omega) c65 c66 he (fun W => ?_) (fun W v v' hv hv' => nmul_v hv hv' (by omega) (by omega)) (fun W v v' hT' hv hv' => ?_)
    · have := npow5 e.toNat W (by omega)
      rw [show ((e.toNat : Nat) : Int) = e by omega] at this
      exact this
    · exact rnd_good n d e s hT' hv hv' hb hk (by decide) (by omega) (by decide)
section
variable (n d : Int) (c : Int) (s g : Bool) (l : List UInt8) (x : Int) (T : List UInt8) (nm : ByteArray) (wd : Int) (f e : Nat) (lo m : Int) (w : World) (hT : Tab w)
include hT
variable (c28 : ∀ W, Tab W → Calls Tryz.prog 47 #[.int .i64 n, .int .i64 d] W fun r w' => r = .returned (.tuple #[DI n nm wd f e lo m, .int .i64 0]) ∧ Below W.heap.size W w')
include c28
variable (c31 : ∀ W, Below w.heap.size w W → Calls Tryz.prog 88 #[PV c s g l x] W fun r w' => r = .returned (.tuple #[.string (B T), .int .i64 0]) ∧ Below W.heap.size W w')
include c31
set_option maxHeartbeats 4000000 in
theorem make_1 (hc : c = 1) (R : Nat) (F E : Int) (c32 : ∀ W, Tab W → Calls Tryz.prog 89 #[.int .i64 n, .int .i64 d, PV 1 s g l x] W fun r w' => r = .returned (.tuple #[A4 R, .int .i64 F, .int .i64 E]) ∧ Below W.heap.size W w') :
    Calls Tryz.prog 37 #[.int .i64 n, .int .i64 d, PV c s g l x] w fun r w' => r = .returned (.tuple #[A4 R, .int .i64 F, .int .i64 E]) ∧ Below w.heap.size w w' := by
  subst hc
  have hsm := cell_set_map
  unfold PV at *
  go_enter Tryz.func37, Tryz.ntmps37
  go_wp2_with (first
    | (go_at_call 47; refine (c28 _ (hT.go bgo)).mono ?_; rintro r w1 ⟨rfl, hb1⟩; obtain ⟨hc1, hf1⟩ := bcell hb1; have hz1_0 : w.heap.size < w1.heap.size := lt_below hb1 ltg; have hl1_0 := Nat.le_of_lt hz1_0; have hz1_1 : w.heap.size + 1 < w1.heap.size := lt_below hb1 ltg; have hl1_1 := Nat.le_of_lt hz1_1; have hA1 := bnext (w0 := w) bgo hb1; have hs1 := hA1.size; clear hb1)
    | (go_at_call 88; refine (c31 _ bgo).mono ?_; rintro r w2 ⟨rfl, hb2⟩; obtain ⟨hc2, hf2⟩ := bcell hb2; have hz2_0 : w.heap.size < w2.heap.size := lt_below hb2 ltg; have hl2_0 := Nat.le_of_lt hz2_0; have hz2_1 : w.heap.size + 1 < w2.heap.size := lt_below hb2 ltg; have hl2_1 := Nat.le_of_lt hz2_1; have hz2_2 : w1.heap.size < w2.heap.size := lt_below hb2 ltg; have hl2_2 := Nat.le_of_lt hz2_2; have hA2 := bnext (w0 := w) bgo hb2; have hs2 := hA2.size; clear hb2)
    | (go_at_call 89; refine (c32 _ (hT.go bgo)).mono ?_; rintro r w3 ⟨rfl, hb3⟩; obtain ⟨hc3, hf3⟩ := bcell hb3; have hz3_0 : w.heap.size < w3.heap.size := lt_below hb3 ltg; have hl3_0 := Nat.le_of_lt hz3_0; have hz3_1 : w.heap.size + 1 < w3.heap.size := lt_below hb3 ltg; have hl3_1 := Nat.le_of_lt hz3_1; have hz3_2 : w1.heap.size < w3.heap.size := lt_below hb3 ltg; have hl3_2 := Nat.le_of_lt hz3_2; have hA3 := bnext (w0 := w) bgo hb3; have hs3 := hA3.size; clear hb3))
  exact bodyPost_ret (v := .tuple #[A4 R, .int .i64 F, .int .i64 E]) (by simp only [results, Tryz.results37]; go_simp) rfl ⟨rfl, bgo⟩
set_option maxHeartbeats 4000000 in
theorem make_2 (hc : c = 2) (R : Nat) (E : Int) (c34 : ∀ W, Tab W → Calls Tryz.prog 91 #[.int .i64 n, .agg #[.int .i64 2, .bool s, .bool g, .int .i64 0, .int .u64 0, .int .u64 0, .int .u64 0, .int .u64 0]] W fun r w' => r = .returned (.tuple #[A4 R, .int .i64 E]) ∧ Below W.heap.size W w') :
    Calls Tryz.prog 37 #[.int .i64 n, .int .i64 d, PV c s g l x] w fun r w' => r = .returned (.tuple #[A4 R, .int .i64 0, .int .i64 E]) ∧ Below w.heap.size w w' := by
  subst hc
  have hsm := cell_set_map
  unfold PV at *
  go_enter Tryz.func37, Tryz.ntmps37
  go_wp2_with (first
    | (go_at_call 47; refine (c28 _ (hT.go bgo)).mono ?_; rintro r w1 ⟨rfl, hb1⟩; obtain ⟨hc1, hf1⟩ := bcell hb1; have hz1_0 : w.heap.size < w1.heap.size := lt_below hb1 ltg; have hl1_0 := Nat.le_of_lt hz1_0; have hz1_1 : w.heap.size + 1 < w1.heap.size := lt_below hb1 ltg; have hl1_1 := Nat.le_of_lt hz1_1; have hA1 := bnext (w0 := w) bgo hb1; have hs1 := hA1.size; clear hb1)
    | (go_at_call 88; refine (c31 _ bgo).mono ?_; rintro r w2 ⟨rfl, hb2⟩; obtain ⟨hc2, hf2⟩ := bcell hb2; have hz2_0 : w.heap.size < w2.heap.size := lt_below hb2 ltg; have hl2_0 := Nat.le_of_lt hz2_0; have hz2_1 : w.heap.size + 1 < w2.heap.size := lt_below hb2 ltg; have hl2_1 := Nat.le_of_lt hz2_1; have hz2_2 : w1.heap.size < w2.heap.size := lt_below hb2 ltg; have hl2_2 := Nat.le_of_lt hz2_2; have hA2 := bnext (w0 := w) bgo hb2; have hs2 := hA2.size; clear hb2)
    | (go_at_call 91; refine (c34 _ (hT.go bgo)).mono ?_; rintro r w3 ⟨rfl, hb3⟩; obtain ⟨hc3, hf3⟩ := bcell hb3; have hz3_0 : w.heap.size < w3.heap.size := lt_below hb3 ltg; have hl3_0 := Nat.le_of_lt hz3_0; have hz3_1 : w.heap.size + 1 < w3.heap.size := lt_below hb3 ltg; have hl3_1 := Nat.le_of_lt hz3_1; have hz3_2 : w1.heap.size < w3.heap.size := lt_below hb3 ltg; have hl3_2 := Nat.le_of_lt hz3_2; have hz3_3 : w2.heap.size < w3.heap.size := lt_below hb3 ltg; have hl3_3 := Nat.le_of_lt hz3_3; have hA3 := bnext (w0 := w) bgo hb3; have hs3 := hA3.size; clear hb3))
  exact bodyPost_ret (v := .tuple #[A4 R, .int .i64 0, .int .i64 E]) (by simp only [results, Tryz.results37]; go_simp) rfl ⟨rfl, bgo⟩
set_option maxHeartbeats 4000000 in
theorem make_3 (hc : c = 3) (P R : Nat) (E : Int) (c33 : ∀ W, Calls Tryz.prog 90 #[DI n nm wd f e lo m, PV 3 s g l x] W fun r w' => r = .returned (A4 P) ∧ Below W.heap.size W w')
    (c34 : ∀ W, Tab W → Calls Tryz.prog 91 #[.int .i64 n, DV 3 s g 0 P] W fun r w' => r = .returned (.tuple #[A4 R, .int .i64 E]) ∧ Below W.heap.size W w') :
    Calls Tryz.prog 37 #[.int .i64 n, .int .i64 d, PV c s g l x] w fun r w' => r = .returned (.tuple #[A4 R, .int .i64 0, .int .i64 E]) ∧ Below w.heap.size w w' := by
  subst hc
  have hsm := cell_set_map
  unfold PV at *
  go_enter Tryz.func37, Tryz.ntmps37
  go_wp2_with (first
    | (go_at_call 47; refine (c28 _ (hT.go bgo)).mono ?_; rintro r w1 ⟨rfl, hb1⟩; obtain ⟨hc1, hf1⟩ := bcell hb1; have hz1_0 : w.heap.size < w1.heap.size := lt_below hb1 ltg; have hl1_0 := Nat.le_of_lt hz1_0; have hz1_1 : w.heap.size + 1 < w1.heap.size := lt_below hb1 ltg; have hl1_1 := Nat.le_of_lt hz1_1; have hA1 := bnext (w0 := w) bgo hb1; have hs1 := hA1.size; clear hb1)
    | (go_at_call 88; refine (c31 _ bgo).mono ?_; rintro r w2 ⟨rfl, hb2⟩; obtain ⟨hc2, hf2⟩ := bcell hb2; have hz2_0 : w.heap.size < w2.heap.size := lt_below hb2 ltg; have hl2_0 := Nat.le_of_lt hz2_0; have hz2_1 : w.heap.size + 1 < w2.heap.size := lt_below hb2 ltg; have hl2_1 := Nat.le_of_lt hz2_1; have hz2_2 : w1.heap.size < w2.heap.size := lt_below hb2 ltg; have hl2_2 := Nat.le_of_lt hz2_2; have hA2 := bnext (w0 := w) bgo hb2; have hs2 := hA2.size; clear hb2)
    | (go_at_call 90; refine (c33 _).mono ?_; rintro r w3 ⟨rfl, hb3⟩; obtain ⟨hc3, hf3⟩ := bcell hb3; have hz3_0 : w.heap.size < w3.heap.size := lt_below hb3 ltg; have hl3_0 := Nat.le_of_lt hz3_0; have hz3_1 : w.heap.size + 1 < w3.heap.size := lt_below hb3 ltg; have hl3_1 := Nat.le_of_lt hz3_1; have hz3_2 : w1.heap.size < w3.heap.size := lt_below hb3 ltg; have hl3_2 := Nat.le_of_lt hz3_2; have hz3_3 : w2.heap.size < w3.heap.size := lt_below hb3 ltg; have hl3_3 := Nat.le_of_lt hz3_3; have hA3 := bnext (w0 := w) bgo hb3; have hs3 := hA3.size; clear hb3)
    | (go_at_call 91; refine (c34 _ (hT.go bgo)).mono ?_; rintro r w4 ⟨rfl, hb4⟩; obtain ⟨hc4, hf4⟩ := bcell hb4; have hz4_0 : w.heap.size < w4.heap.size := lt_below hb4 ltg; have hl4_0 := Nat.le_of_lt hz4_0; have hz4_1 : w.heap.size + 1 < w4.heap.size := lt_below hb4 ltg; have hl4_1 := Nat.le_of_lt hz4_1; have hz4_2 : w1.heap.size < w4.heap.size := lt_below hb4 ltg; have hl4_2 := Nat.le_of_lt hz4_2; have hz4_3 : w2.heap.size < w4.heap.size := lt_below hb4 ltg; have hl4_3 := Nat.le_of_lt hz4_3; have hA4 := bnext (w0 := w) bgo hb4; have hs4 := hA4.size; clear hb4))
  exact bodyPost_ret (v := .tuple #[A4 R, .int .i64 0, .int .i64 E]) (by simp only [results, Tryz.results37]; go_simp) rfl ⟨rfl, bgo⟩
end
end Go.Proofs.YtplocajjfoiklaaGreatDoor

namespace Go.Proofs.YtplocajjfoiklaaGreatDoor
open Go.RowKit

theorem val_odd {z : Nat → Int} {k V : Nat} (hk : 0 < k) (hv : val z k = (V : Int)) : (V : Int) % 2 = z 0 % 2 := by
  have key : ∀ j, val z (j + 1) % 2 = z 0 % 2 := by
    intro j
    induction j with
    | zero => simp [val]
    | succ j ih =>
      have : val z (j + 1 + 1) = val z (j + 1) + z (j + 1) * 18446744073709551616 ^ (j + 1) := rfl
      rw [this, Int.pow_succ, show z (j + 1) * (18446744073709551616 ^ j * 18446744073709551616) = 2 * (z (j + 1) * 18446744073709551616 ^ j * 9223372036854775808) by grind, Int.add_mul_emod_self_left]
      exact ih
  obtain ⟨j, rfl⟩ : ∃ j, k = j + 1 := ⟨k - 1, by omega⟩
  rw [← hv]; exact key j
attribute [local irreducible] NV NT
section
variable (d hv : Int) (s odd : Bool) (va vb : Value) (Q : Nat) (w : World)
  (c99 : Calls Tryz.prog 156 #[va, vb] w fun e w1 => ∃ q g k cap, e = .returned (.tuple #[q, .slice (some ⟨g, 0, none⟩) k cap]) ∧ k ≠ 0 ∧ NV 41000 Q q w1 ∧ Below w.heap.size w w1 ∧ Calls Tryz.prog 28 #[.slice (some ⟨g, 0, none⟩) k cap, .int .i64 1] w1 fun e w2 => ∃ r2, e = .returned r2 ∧ Below w1.heap.size w1 w2 ∧ Calls Tryz.prog 154 #[r2, vb] w2 fun e w3 => e = .returned (.int .i64 hv) ∧ w2 = w3)
  (c100 : ∀ W q, NV 41000 Q q W → Calls Tryz.prog 157 #[q] W fun e w' => e = .returned (.bool odd) ∧ W = w')
  (c24 : ∀ W q v, NV 41000 Q q W → NV 1 1 v W → Calls Tryz.prog 44 #[q, v] W fun e w' => ∃ r, e = .returned r ∧ NV 41002 (Q + 1) r w' ∧ Below W.heap.size W w')
include c99 c100 c24
end
end Go.Proofs.YtplocajjfoiklaaGreatDoor

namespace Go.Proofs.YtplocajjfoiklaaGreatDoor
open Go.RowKit
attribute [local irreducible] W4

abbrev IV (n : Int) (nm : ByteArray) (wd : Int) (f e : Nat) (l m : Int) : Value := .agg #[.int .i64 n, .string nm, .int .i64 2, .int .i64 wd, .int .i64 ((f : Int) + 1), .int .i64 e, .int .i64 l, .int .i64 m, .int .i64 ((f : Int) - 1), .bool false]
section
variable (n : Int) (nm : ByteArray) (wd : Int) (f e : Nat) (l m : Int) (c x : Int) (s g : Bool) (k : Nat) (L : Int) (w : World) (hf : 2 ≤ f ∧ f ≤ 240)
  (c38 : ∀ W, Num W (some ⟨w.heap.size + 1, 4, none⟩) 4 4 (lowW (W4 k) 4) → Calls Tryz.prog 26 #[.slice (some ⟨w.heap.size + 1, 4, none⟩) 4 4] W fun e w' => e = .returned (.int .i64 L) ∧ W = w')
include hf c38
end
end Go.Proofs.YtplocajjfoiklaaGreatDoor

namespace Go.Proofs.YtplocajjfoiklaaGreatDoor
open Go.RowKit

/-- a block holds four words of a number, from a place on -/
structure Four (w : World) (g o k : Nat) : Prop where
  cell : ∀ i, i < 4 → w.cell? ⟨g, o + i, none⟩ = some (.int .u64 (W4 k i))
theorem Four.of {w : World} {g o k : Nat} (h0 : w.cell? ⟨g, o + 0, none⟩ = some (.int .u64 (W4 k 0))) (h1 : w.cell? ⟨g, o + 1, none⟩ = some (.int .u64 (W4 k 1))) (h2 : w.cell? ⟨g, o + 2, none⟩ = some (.int .u64 (W4 k 2))) (h3 : w.cell? ⟨g, o + 3, none⟩ = some (.int .u64 (W4 k 3))) : Four w g o k :=
  ⟨fun i hi => by
    have : i = 0 ∨ i = 1 ∨ i = 2 ∨ i = 3 := by omega
    rcases this with rfl | rfl | rfl | rfl <;> assumption⟩
theorem Four.next {w w' : World} {g o k : Nat} (h : Four w g o k) (hg : g < w.heap.size) (hb : Below w.heap.size w w') : Four w' g o k :=
  ⟨fun i hi => by rw [hb.cell (p := ⟨g, o + i, none⟩) hg]; exact h.cell i hi⟩
/-- a block holds a datum -/
structure Dc (w : World) (g : Nat) (c : Int) (s b : Bool) (x : Int) (k : Nat) : Prop where
  c0 : w.cell? ⟨g, 0, none⟩ = some (.int .i64 c)
  c1 : w.cell? ⟨g, 1, none⟩ = some (.bool s)
  c2 : w.cell? ⟨g, 2, none⟩ = some (.bool b)
  c3 : w.cell? ⟨g, 3, none⟩ = some (.int .i64 x)
  c4 : w.cell? ⟨g, 4, none⟩ = some (.int .u64 (W4 k 0))
  c5 : w.cell? ⟨g, 5, none⟩ = some (.int .u64 (W4 k 1))
  c6 : w.cell? ⟨g, 6, none⟩ = some (.int .u64 (W4 k 2))
  c7 : w.cell? ⟨g, 7, none⟩ = some (.int .u64 (W4 k 3))
theorem Dc.next {w w' : World} {g : Nat} {c : Int} {s b : Bool} {x : Int} {k : Nat} (h : Dc w g c s b x k) (hg : g < w.heap.size) (hb : Below w.heap.size w w') : Dc w' g c s b x k :=
  ⟨by rw [hb.cell (p := ⟨g, 0, none⟩) hg, h.c0], by rw [hb.cell (p := ⟨g, 1, none⟩) hg, h.c1], by rw [hb.cell (p := ⟨g, 2, none⟩) hg, h.c2], by rw [hb.cell (p := ⟨g, 3, none⟩) hg, h.c3],
   by rw [hb.cell (p := ⟨g, 4, none⟩) hg, h.c4], by rw [hb.cell (p := ⟨g, 5, none⟩) hg, h.c5], by rw [hb.cell (p := ⟨g, 6, none⟩) hg, h.c6], by rw [hb.cell (p := ⟨g, 7, none⟩) hg, h.c7]⟩
/-- what stands in the words below i -/
def mo (A B i : Nat) : Bool := decide (val (W4 B) i < val (W4 A) i)
attribute [local irreducible] W4 mo
end Go.Proofs.YtplocajjfoiklaaGreatDoor

namespace Go.Proofs.YtplocajjfoiklaaGreatDoor
open Go.RowKit

theorem DV_zero (c : Int) (s g : Bool) (x : Int) : DV c s g x 0 = .agg #[.int .i64 c, .bool s, .bool g, .int .i64 x, .int .u64 0, .int .u64 0, .int .u64 0, .int .u64 0] := by
  unfold DV; simp only [W4_zero]
attribute [local irreducible] W4 NT NV Nt
end Go.Proofs.YtplocajjfoiklaaGreatDoor
