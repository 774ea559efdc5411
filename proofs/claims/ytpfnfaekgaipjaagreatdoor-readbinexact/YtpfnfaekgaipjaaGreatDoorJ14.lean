/-
  Texts that the proof leans on, joined: Rg, Bw, Bj, Bp, Eq, Bq.
-/
import Derived.Test.YtpfnfaekgaipjaaGreatDoorJ13
import Derived.Test.YtpfnfaekgaipjaaGreatDoorJ1
import Derived.DeepKeys
set_option linter.unusedVariables false
set_option linter.unusedSectionVars false
set_option linter.unusedSimpArgs false
set_option maxRecDepth 20000
namespace Go.Proofs.YtpfnfaekgaipjaaGreatDoor
open Go.RowKit
attribute [local go_sem ↓] Go.wp_at_zero Go.wp_at_succ

theorem nv_low {k V : Nat} {z : Nat → Int} (hz : Words z) (h0 : ∀ i, k ≤ i → z i = 0) (hv : val z k = (V : Int)) : val z 4 = ((V % 2 ^ 256 : Nat) : Int) := by
  have h1 : val z (4 + k) = (V : Int) := by rw [val_more h0 (4 + k) (by omega), hv]
  rw [val_split z 4 k] at h1
  have hb := val_bd hz 4
  have e4 : (18446744073709551616 : Int) ^ 4 = ((2 ^ 256 : Nat) : Int) := by decide
  rw [e4] at h1 hb
  have h5 := congrArg (· % ((2 ^ 256 : Nat) : Int)) h1
  simp only [Int.add_mul_emod_self_right, Int.emod_eq_of_lt hb.1 hb.2] at h5
  rw [h5]
  rfl
set_option maxHeartbeats 1000000 in
theorem bits_num (g k cap : Nat) (z : Nat → Int) (w : World) (h : Num w (some ⟨g, 0, none⟩) k cap z) :
    Calls Tryz.prog 37 #[.slice (some ⟨g, 0, none⟩) k cap] w fun e w' => e = .returned (.agg (arrOf z 4)) ∧ Below w.heap.size w w' := by
  have hw := fun (i : Nat) (o1 o2 : Obj) => word_any (some ⟨g, 0, none⟩) k cap i z ((w.alloc o1).alloc o2) ((h.next (below1 w _)).next (below1 _ _))
  clear h
  go_enter Tryz.func37, Tryz.ntmps37
  go_wp2
  go_loopw [4, 5] (fun u4 i wr => ∃ (j : Nat) (ss : Array Value), j ≤ 4 ∧ i = .int .i64 j ∧ ss.size = 4 ∧ (∀ q h, ss[q]'h = Value.int .u64 (if q < j then z q else 0)) ∧ wr = (w.alloc (.cells #[.int .u64 0, .int .u64 0, .int .u64 0, .int .u64 0] 24)).alloc (.cells ss 24)) (fun _ i _ => 4 - (intOf i).toNat)
  case atStart => exact ⟨0, _, Nat.zero_le _, rfl, rfl, by intro q h; have h' : q < 4 := h; match q, h' with | 0, _ => rfl | 1, _ => rfl | 2, _ => rfl | 3, _ => rfl, rfl⟩
  case round =>
    obtain ⟨j, ss, hj, rfl, hsz, hss, rfl⟩ := hrel
    by_cases h4 : j < 4
    · have h4i : (j : Int) < 4 := by omega
      have h4s : j < ss.size := by omega
      have hsk : ss[j]? = some (.int .u64 0) := by rw [Array.getElem?_eq_getElem h4s, hss j h4s, if_neg (by omega)]
      have HR : Hid (∀ (i : Nat) (h : i < (ss.setIfInBounds j (.int .u64 (z j))).size), (ss.setIfInBounds j (.int .u64 (z j)))[i]'h = Value.int .u64 (if i < j + 1 then z i else 0)) := set_next hss
      have hwj := hw j (.cells #[.int .u64 0, .int .u64 0, .int .u64 0, .int .u64 0] 24) (.cells ss 24)
      clear hss hw
      go_wp2_with (go_at_call 23; refine hwj.mono ?_; rintro e w' ⟨rfl, rfl⟩)
      go_roundw
      case rel => exact ⟨j + 1, ss.setIfInBounds j (.int .u64 (z j)), by omega, by go_num, by simp [hsz], HR.out, rfl⟩
      case measure => simp [intOf]; omega
    · obtain rfl : j = 4 := by omega
      have hss' : ∀ q h, ss[q]'h = Value.int .u64 (z q) := by
        intro q h; rw [hss q h, if_pos (by omega)]
      clear hss hw
      go_wp2
      exact bodyPost_ret (v := .agg (arrOf z 4)) (by simp [results, Tryz.results37, go_sem]; rfl) rfl ⟨rfl, ((Below.refl _ _).alloc (Nat.le_refl _) _).alloc (by simp) _⟩
theorem bits_nv {K V : Nat} {v : Value} {w : World} (h : NV K V v w) :
    Calls Tryz.prog 37 #[v] w fun e w' => e = .returned (A4 V) ∧ Below w.heap.size w w' := by
  obtain ⟨g, k, cap, z, rfl, hk, hN, hv⟩ := h
  refine (bits_num g k cap z w hN).mono ?_
  rintro e w' ⟨rfl, hb⟩
  refine ⟨?_, hb⟩
  rw [arr_A4 hN.2.2.1 (nv_low hN.2.2.1 hN.2.2.2.1 hv)]
set_option maxHeartbeats 1000000 in
theorem number_nv {K V : Nat} {v : Value} {w : World} (h : NV K V v w) (hK : K < 1000) (hV : V < 9223372036854775808) :
    Calls Tryz.prog 36 #[v] w fun e w' => e = .returned (.int .i64 V) ∧ w' = w := by
  obtain ⟨g, k, cap, z, rfl, hk, hN, hv⟩ := h
  obtain ⟨h1, h2, h3, h4, h5⟩ := hN
  rcases h5 with ⟨h5, _⟩ | ⟨b, off, e, hb, hc⟩
  · cases h5
  · cases e
    rcases Nat.eq_zero_or_pos k with hk0 | hk0
    · subst hk0
      have : V = 0 := by have : val z 0 = 0 := rfl
                         omega
      subst this
      go_enter Tryz.func36, Tryz.ntmps36
      go_wp2
      go_ret
      exact ⟨rfl, rfl⟩
    · have hc0 := hc 0 hk0
      have hz0 := h3 0
      have e0 : z 0 = (V : Int) := by
        have hl := nv_low h3 h4 hv
        obtain ⟨j, rfl⟩ : ∃ j, k = 1 + j := ⟨k - 1, by omega⟩
        have hs := val_split z 1 j
        have hb2 := val_bd (segW_words h3 1 j) j
        have h10 : val z 1 = z 0 := by show val z 0 + z 0 * 18446744073709551616 ^ 0 = z 0; simp [val]
        rw [hv, h10] at hs
        simp only [Int.pow_one] at hs
        have hm : 0 ≤ val (segW z 1 j) j := hb2.1
        by_cases hp : 0 < val (segW z 1 j) j
        · exfalso; omega
        · have : val (segW z 1 j) j = 0 := by omega
          rw [this] at hs; omega
      have hk1 : ¬ ((k : Int) = 0) := by omega
      rw [e0] at hc0
      simp only [Nat.add_zero] at hc0
      have hkb : (k == 0) = false := by simp; omega
      have hki : (0 : Int) < k := by omega
      clear hc h3 h4 hv e0 hz0
      go_enter Tryz.func36, Tryz.ntmps36
      go_wp2
      go_ret
      exact ⟨rfl, rfl⟩
theorem box_nv {w0 w : World} {B : Nat} {t : TypeId} (hB : B < 2 ^ 256) (hb : Below (w0.alloc (.cells #[.int .u64 (W4 B 0), .int .u64 (W4 B 1), .int .u64 (W4 B 2), .int .u64 (W4 B 3)] t)).heap.size (w0.alloc (.cells #[.int .u64 (W4 B 0), .int .u64 (W4 B 1), .int .u64 (W4 B 2), .int .u64 (W4 B 3)] t)) w) :
    NV 4 B (.slice (some ⟨w0.heap.size, 0, none⟩) 4 4) w :=
  ⟨_, 4, 4, _, rfl, Nat.le_refl _, box_num (W4_words B) (A4_get B) hb, by
    rw [val_congr (x := lowW (W4 B) 4) (y := W4 B) 4 (fun i hi => lowW_lt hi), W4_val4 hB]⟩
set_option maxHeartbeats 1000000 in
theorem field_any (B at_ n : Nat) (w : World) (hB : B < 2 ^ 256) (ha : at_ ≤ 600) (hn : n ≤ 600) :
    Calls Tryz.prog 35 #[A4 B, .int .i64 at_, .int .i64 n] w fun e w' => ∃ r, e = .returned r ∧ NT 19 (B / 2 ^ at_ % 2 ^ n) r w' ∧ Below w.heap.size w w' := by
  have hbx := box_nv (w0 := w) (B := B) (t := 24) hB (Below.refl _ _)
  go_enter Tryz.func35, Tryz.ntmps35
  go_wp2_with (first
    | (have := hA2; go_at_call 9; refine (rleft_nv n (by decide) hn hh).mono ?_; rintro e w3 ⟨v3, rfl, hl, hb3⟩; replace hx := hx.next hb3; have hA3 := bnext hA2 hb3)
    | (have := hA1; go_at_call 60; refine (rright_nv n (by decide) hn hx).mono ?_; rintro e w2 ⟨v2, b2, rfl, hh, hb2⟩; replace hx := hx.next hb2; have hA2 := bnext hA1 hb2)
    | (go_at_call 60; refine (rright_nv at_ (by decide) ha hbx).mono ?_; rintro e w1 ⟨v1, b1, rfl, hx, hb1⟩; have hA1 := bnext (w0 := w) bgo hb1)
    | (go_at_call 61; refine (rless_nt (by decide) (by decide) hx hl (Nat.div_mul_le_self _ _)).mono ?_; rintro e w4 ⟨v4, rfl, hr, hb4⟩; have hA4 := bnext hA3 hb4))
  go_ret
  refine ⟨_, rfl, ?_, hA4⟩
  rw [show B / 2 ^ at_ % 2 ^ n = B / 2 ^ at_ - B / 2 ^ at_ / 2 ^ n * 2 ^ n by have := Nat.div_add_mod' (B / 2 ^ at_) (2 ^ n); omega]
  exact hr
end Go.Proofs.YtpfnfaekgaipjaaGreatDoor

namespace Go.Proofs.YtpfnfaekgaipjaaGreatDoor
open Go.RowKit

/-- what a pattern means -/
def unp (f e : Nat) (l : Int) (B : Nat) : Dat :=
  if B / 2 ^ f % 2 ^ e = 2 ^ e - 1 then spc f (sgB f e B) (B % 2 ^ f)
  else if B / 2 ^ f % 2 ^ e = 0 then ⟨1, sgB f e B, false, l, B % 2 ^ f⟩
  else ⟨1, sgB f e B, false, l + ((B / 2 ^ f % 2 ^ e : Nat) - 1 : Int), B % 2 ^ f + 2 ^ f⟩

end Go.Proofs.YtpfnfaekgaipjaaGreatDoor

namespace Go.Proofs.YtpfnfaekgaipjaaGreatDoor
open Go.RowKit

section
variable (f e : Nat) (l m : Int) (w : World) (E F Sh J Pw K : Nat) (cr cr' : Int)
  (c49 : ∀ w, Calls Tryz.prog 117 #[.int .u64 E] w fun x w' => x = .returned (A4 E) ∧ Below w.heap.size w w')
  (c45 : ∀ w, Calls Tryz.prog 116 #[A4 E, .int .i64 f] w fun x w' => x = .returned (A4 Sh) ∧ Below w.heap.size w w')
  (c22 : ∀ w, Calls Tryz.prog 89 #[A4 Sh, A4 F] w fun x w' => x = .returned (.tuple #[A4 J, .int .u64 cr]) ∧ Below w.heap.size w w')
include c49 c45 c22
set_option maxHeartbeats 1000000 in
theorem join_f : Calls Tryz.prog 87 #[LV f e l m, .bool false, .int .u64 E, A4 F] w fun x w' => x = .returned (A4 J) ∧ Below w.heap.size w w' := by
  generalize (E : Int) = Ei at *
  go_enter Tryz.func87, Tryz.ntmps87
  go_wp2
  refine wp_made 7 10 9 #[.int .u64 0, .int .u64 0, .int .u64 0, .int .u64 0] (by kernel_rfl) (by kernel_rfl) (by kernel_rfl) rfl (fun oa hoa a w => ?_) (by kernel_rfl) (by kernel_rfl) rfl rfl (fun _ _ d _ _ h => by cases d <;> exact h) ?_
  · cases hoa; exact ⟨23, by simp [go_sem]⟩
  apply Exists.intro
  refine ⟨fun al hne hcell => ?_, fun w1 hb1 => ?_, fun g w1 hb1 hg0 hg1 hg2 hg3 => ?_⟩
  · simp only [List.take_succ_cons, List.take_zero]
    repeat go_big_quiet_step (fail)
    go_big_quiet_step ((go_at_call 117; exact calls_wd _ al_next (c49 _)))
    repeat go_big_quiet_step (fail)
    go_big_quiet_step ((go_at_call 116; exact calls_wd _ al_next (c45 _)))
    repeat go_big_quiet_step (fail)
    go_big_quiet_step ((go_at_call 89; exact calls_wd _ al_next (c22 _)))
    exact wpQuiet_nil rfl
  · simp only [List.drop_succ_cons, List.drop_zero]
    obtain ⟨hc1, hf1⟩ := bcell hb1; have hz1_0 : w.heap.size < w1.heap.size := lt_below hb1 ltg; have hl1_0 := Nat.le_of_lt hz1_0; have hz1_1 : w.heap.size + 1 < w1.heap.size := lt_below hb1 ltg; have hl1_1 := Nat.le_of_lt hz1_1; have hz1_2 : w.heap.size + 1 + 1 < w1.heap.size := lt_below hb1 ltg; have hl1_2 := Nat.le_of_lt hz1_2; have hA1 := bnext (w0 := w) bgo hb1; have hs1 := hA1.size; clear hb1
    have hsm := cell_set_map
    go_wp2
    exact bodyPost_ret (v := A4 J) (by simp only [results, Tryz.results87]; go_simp) rfl ⟨rfl, bgo⟩
  · simp only [List.drop_succ_cons, List.drop_zero, Nat.reduceSub, List.eraseIdx_cons_succ, List.eraseIdx_cons_zero]
    simp only [World.size_alloc] at hg0
    have hz0 : g ≠ w.heap.size := by omega
    have hz1 : g ≠ w.heap.size + 1 := by omega
    have hz2 : g ≠ w.heap.size + 1 + 1 := by omega
    obtain ⟨hc1, hf1⟩ := bcell hb1; have hz1_0 : w.heap.size < w1.heap.size := lt_below hb1 ltg; have hl1_0 := Nat.le_of_lt hz1_0; have hz1_1 : w.heap.size + 1 < w1.heap.size := lt_below hb1 ltg; have hl1_1 := Nat.le_of_lt hz1_1; have hz1_2 : w.heap.size + 1 + 1 < w1.heap.size := lt_below hb1 ltg; have hl1_2 := Nat.le_of_lt hz1_2; have hA1 := bnext (w0 := w) bgo hb1; have hs1 := hA1.size; clear hb1
    have hsm := cell_set_map
    go_wp2
    exact bodyPost_ret (v := A4 J) (by simp only [results, Tryz.results87]; go_simp) rfl ⟨rfl, bgo⟩
set_option maxHeartbeats 2000000 in
theorem join_t (hf : f ≤ 240) (he : e ≤ 15)
  (c23 : ∀ w, Calls Tryz.prog 118 #[.int .i64 ((f : Int) + e)] w fun x w' => x = .returned (A4 Pw) ∧ Below w.heap.size w w')
  (c22b : ∀ w, Calls Tryz.prog 89 #[A4 J, A4 Pw] w fun x w' => x = .returned (.tuple #[A4 K, .int .u64 cr']) ∧ Below w.heap.size w w') :
    Calls Tryz.prog 87 #[LV f e l m, .bool true, .int .u64 E, A4 F] w fun x w' => x = .returned (A4 K) ∧ Below w.heap.size w w' := by
  generalize (E : Int) = Ei at *
  go_enter Tryz.func87, Tryz.ntmps87
  go_wp2
  refine wp_made 7 10 9 #[.int .u64 0, .int .u64 0, .int .u64 0, .int .u64 0] (by kernel_rfl) (by kernel_rfl) (by kernel_rfl) rfl (fun oa hoa a w => ?_) (by kernel_rfl) (by kernel_rfl) rfl rfl (fun _ _ d _ _ h => by cases d <;> exact h) ?_
  · cases hoa; exact ⟨23, by simp [go_sem]⟩
  apply Exists.intro
  refine ⟨fun al hne hcell => ?_, fun w1 hb1 => ?_, fun g w1 hb1 hg0 hg1 hg2 hg3 => ?_⟩
  · simp only [List.take_succ_cons, List.take_zero]
    repeat go_big_quiet_step (fail)
    go_big_quiet_step ((go_at_call 117; exact calls_wd _ al_next (c49 _)))
    repeat go_big_quiet_step (fail)
    go_big_quiet_step ((go_at_call 116; exact calls_wd _ al_next (c45 _)))
    repeat go_big_quiet_step (fail)
    go_big_quiet_step ((go_at_call 89; exact calls_wd _ al_next (c22 _)))
    exact wpQuiet_nil rfl
  · simp only [List.drop_succ_cons, List.drop_zero]
    obtain ⟨hc1, hf1⟩ := bcell hb1; have hz1_0 : w.heap.size < w1.heap.size := lt_below hb1 ltg; have hl1_0 := Nat.le_of_lt hz1_0; have hz1_1 : w.heap.size + 1 < w1.heap.size := lt_below hb1 ltg; have hl1_1 := Nat.le_of_lt hz1_1; have hz1_2 : w.heap.size + 1 + 1 < w1.heap.size := lt_below hb1 ltg; have hl1_2 := Nat.le_of_lt hz1_2; have hA1 := bnext (w0 := w) bgo hb1; have hs1 := hA1.size; clear hb1
    have hsm := cell_set_map
    go_wp2
    refine wp_tail 8 (by kernel_rfl) (by kernel_rfl) (by kernel_rfl) (fun _ _ d _ _ h => by cases d <;> exact h) fun hne hcell => ?_
    simp only [List.take_succ_cons, List.take_zero, List.drop_succ_cons, List.drop_zero]
    repeat go_big_quiet_step (fail)
    go_big_quiet_step ((go_at_call 118; exact calls_wd _ bk_next (c23 _)))
    repeat go_big_quiet_step (fail)
    go_big_quiet_step ((go_at_call 89; exact calls_wd _ bk_next (c22b _)))
    refine wpQuiet_nil fun w2 hb2 => ?_
    obtain ⟨hc2, hf2⟩ := bcell hb2; have hz2_0 : w.heap.size < w2.heap.size := lt_below hb2 ltg; have hl2_0 := Nat.le_of_lt hz2_0; have hz2_1 : w.heap.size + 1 < w2.heap.size := lt_below hb2 ltg; have hl2_1 := Nat.le_of_lt hz2_1; have hz2_2 : w.heap.size + 1 + 1 < w2.heap.size := lt_below hb2 ltg; have hl2_2 := Nat.le_of_lt hz2_2; have hz2_3 : w1.heap.size < w2.heap.size := lt_below hb2 ltg; have hl2_3 := Nat.le_of_lt hz2_3; have hA2 := bnext (w0 := w) bgo hb2; have hs2 := hA2.size; clear hb2
    go_wp2
    exact bodyPost_ret (v := A4 K) (by simp only [results, Tryz.results87]; go_simp) rfl ⟨rfl, bgo⟩
  · simp only [List.drop_succ_cons, List.drop_zero, Nat.reduceSub, List.eraseIdx_cons_succ, List.eraseIdx_cons_zero]
    simp only [World.size_alloc] at hg0
    have hz0 : g ≠ w.heap.size := by omega
    have hz1 : g ≠ w.heap.size + 1 := by omega
    have hz2 : g ≠ w.heap.size + 1 + 1 := by omega
    obtain ⟨hc1, hf1⟩ := bcell hb1; have hz1_0 : w.heap.size < w1.heap.size := lt_below hb1 ltg; have hl1_0 := Nat.le_of_lt hz1_0; have hz1_1 : w.heap.size + 1 < w1.heap.size := lt_below hb1 ltg; have hl1_1 := Nat.le_of_lt hz1_1; have hz1_2 : w.heap.size + 1 + 1 < w1.heap.size := lt_below hb1 ltg; have hl1_2 := Nat.le_of_lt hz1_2; have hA1 := bnext (w0 := w) bgo hb1; have hs1 := hA1.size; clear hb1
    have hsm := cell_set_map
    go_wp2
    refine wp_tail 8 (by kernel_rfl) (by kernel_rfl) (by kernel_rfl) (fun _ _ d _ _ h => by cases d <;> exact h) fun hne hcell => ?_
    simp only [List.take_succ_cons, List.take_zero, List.drop_succ_cons, List.drop_zero]
    repeat go_big_quiet_step (fail)
    go_big_quiet_step ((go_at_call 118; exact calls_wd _ bk_next (c23 _)))
    repeat go_big_quiet_step (fail)
    go_big_quiet_step ((go_at_call 89; exact calls_wd _ bk_next (c22b _)))
    refine wpQuiet_nil fun w2 hb2 => ?_
    obtain ⟨hc2, hf2⟩ := bcell hb2; have hz2_0 : w.heap.size < w2.heap.size := lt_below hb2 ltg; have hl2_0 := Nat.le_of_lt hz2_0; have hz2_1 : w.heap.size + 1 < w2.heap.size := lt_below hb2 ltg; have hl2_1 := Nat.le_of_lt hz2_1; have hz2_2 : w.heap.size + 1 + 1 < w2.heap.size := lt_below hb2 ltg; have hl2_2 := Nat.le_of_lt hz2_2; have hz2_3 : g < w2.heap.size := lt_below hb2 ltg; have hl2_3 := Nat.le_of_lt hz2_3; have hA2 := bnext (w0 := w) bgo hb2; have hs2 := hA2.size; clear hb2
    go_wp2
    exact bodyPost_ret (v := A4 K) (by simp only [results, Tryz.results87]; go_simp) rfl ⟨rfl, bgo⟩
end
theorem join_any (f e : Nat) (l m : Int) (s : Bool) (E F : Nat) (w : World) (h : Fm f e l m) (hE : E ≤ 2 ^ e) (hF : F < 2 ^ (f + 1)) :
    Calls Tryz.prog 87 #[LV f e l m, .bool s, .int .u64 E, A4 F] w fun x w' => x = .returned (A4 (E * 2 ^ f + F + if s then 2 ^ (f + e) else 0)) ∧ Below w.heap.size w w' := by
  have h2 := h.e2
  have h15 := h.e15
  have hf := h.f240
  have hfe := h.fe
  have hp := pow_e h2 h15
  have hpc : ((2 : Int) ^ e) = ((2 ^ e : Nat) : Int) := by simp
  rw [hpc] at hp
  have hE1 : E < 18446744073709551616 := by omega
  have a1 : E * 2 ^ f ≤ 2 ^ 255 := Nat.le_trans (Nat.mul_le_mul_right _ hE) (by rw [← Nat.pow_add]; exact Nat.pow_le_pow_right (by decide) (by omega))
  have a2 : 2 ^ (f + 1) ≤ 2 ^ 241 := Nat.pow_le_pow_right (by decide) (by omega)
  have a3 : 2 ^ (f + e) ≤ 2 ^ 255 := Nat.pow_le_pow_right (by decide) (by omega)
  have e255 : (2 : Nat) ^ 255 = 57896044618658097711785492504343953926634992332820282019728792003956564819968 := by decide
  have e241 : (2 : Nat) ^ 241 = 3533694129556768659166595001485837031654967793751237916243212402585239552 := by decide
  have e256 : (2 : Nat) ^ 256 = 115792089237316195423570985008687907853269984665640564039457584007913129639936 := by decide
  have c49 := fun w => of4 E w hE1
  have c45 := fun w => shl4 E f w (by omega) (by omega)
  have c22 := fun w => add4 (E * 2 ^ f) F w (by omega) (by omega)
  cases s with
  | false => exact join_f f e l m w E F _ _ _ c49 c45 c22
  | true =>
    have c23 := fun w => power_any (f + e) w (by omega)
    rw [Int.natCast_add] at c23
    exact join_t f e l m w E F _ _ _ _ _ _ c49 c45 c22 hf h15 c23 (fun w => add4 (E * 2 ^ f + F) (2 ^ (f + e)) w (by omega) (by omega))
end Go.Proofs.YtpfnfaekgaipjaaGreatDoor

namespace Go.Proofs.YtpfnfaekgaipjaaGreatDoor
open Go.RowKit

abbrev Z4 : Value := .agg #[.int .u64 0, .int .u64 0, .int .u64 0, .int .u64 0]
theorem Z4_eq : A4 0 = Z4 := by unfold A4 Z4; simp only [W4_zero]

section
variable (f e : Nat) (l m : Int) (w : World) (c x : Int) (s : Bool) (k : Nat) (L : Int) (hf : f ≤ 240)
  (c46 : ∀ w, Calls Tryz.prog 86 #[A4 k] w fun x w' => x = .returned (.int .i64 L) ∧ Below w.heap.size w w')
include hf c46
set_option maxHeartbeats 1000000 in
theorem packFin_g : Calls Tryz.prog 55 #[LV f e l m, DV c s true x k] w fun x w' => x = .returned (.tuple #[Z4, .int .i64 3]) ∧ Below w.heap.size w w' := by
  go_enter Tryz.func55, Tryz.ntmps55
  go_wp2_with (go_at_call 86; refine (c46 _).mono ?_; rintro x w1 ⟨rfl, hb1⟩; obtain ⟨hc1, hf1⟩ := bcell hb1; have hz1_0 : w.heap.size < w1.heap.size := lt_below hb1 ltg; have hl1_0 := Nat.le_of_lt hz1_0; have hz1_1 : w.heap.size + 1 < w1.heap.size := lt_below hb1 ltg; have hl1_1 := Nat.le_of_lt hz1_1; have hz1_2 : w.heap.size + 1 + 1 < w1.heap.size := lt_below hb1 ltg; have hl1_2 := Nat.le_of_lt hz1_2; have hz1_3 : w.heap.size + 1 + 1 + 1 < w1.heap.size := lt_below hb1 ltg; have hl1_3 := Nat.le_of_lt hz1_3; have hA1 := bnext (w0 := w) bgo hb1; have hs1 := hA1.size; clear hb1)
  have hsm := cell_set_map
  exact bodyPost_ret (v := .tuple #[Z4, .int .i64 3]) (by simp only [results, Tryz.results55]; go_simp) rfl ⟨rfl, bgo⟩
set_option maxHeartbeats 1000000 in
theorem packFin_1 (hL : (f : Int) + 1 < L) : Calls Tryz.prog 55 #[LV f e l m, DV c s false x k] w fun x w' => x = .returned (.tuple #[Z4, .int .i64 3]) ∧ Below w.heap.size w w' := by
  go_enter Tryz.func55, Tryz.ntmps55
  go_wp2_with (go_at_call 86; refine (c46 _).mono ?_; rintro x w1 ⟨rfl, hb1⟩; obtain ⟨hc1, hf1⟩ := bcell hb1; have hz1_0 : w.heap.size < w1.heap.size := lt_below hb1 ltg; have hl1_0 := Nat.le_of_lt hz1_0; have hz1_1 : w.heap.size + 1 < w1.heap.size := lt_below hb1 ltg; have hl1_1 := Nat.le_of_lt hz1_1; have hz1_2 : w.heap.size + 1 + 1 < w1.heap.size := lt_below hb1 ltg; have hl1_2 := Nat.le_of_lt hz1_2; have hz1_3 : w.heap.size + 1 + 1 + 1 < w1.heap.size := lt_below hb1 ltg; have hl1_3 := Nat.le_of_lt hz1_3; have hA1 := bnext (w0 := w) bgo hb1; have hs1 := hA1.size; clear hb1)
  have hsm := cell_set_map
  exact bodyPost_ret (v := .tuple #[Z4, .int .i64 3]) (by simp only [results, Tryz.results55]; go_simp) rfl ⟨rfl, bgo⟩
set_option maxHeartbeats 1000000 in
theorem packFin_2 (hL : ¬ (f : Int) + 1 < L) (hx : x < l) : Calls Tryz.prog 55 #[LV f e l m, DV c s false x k] w fun x w' => x = .returned (.tuple #[Z4, .int .i64 3]) ∧ Below w.heap.size w w' := by
  go_enter Tryz.func55, Tryz.ntmps55
  go_wp2_with (go_at_call 86; refine (c46 _).mono ?_; rintro x w1 ⟨rfl, hb1⟩; obtain ⟨hc1, hf1⟩ := bcell hb1; have hz1_0 : w.heap.size < w1.heap.size := lt_below hb1 ltg; have hl1_0 := Nat.le_of_lt hz1_0; have hz1_1 : w.heap.size + 1 < w1.heap.size := lt_below hb1 ltg; have hl1_1 := Nat.le_of_lt hz1_1; have hz1_2 : w.heap.size + 1 + 1 < w1.heap.size := lt_below hb1 ltg; have hl1_2 := Nat.le_of_lt hz1_2; have hz1_3 : w.heap.size + 1 + 1 + 1 < w1.heap.size := lt_below hb1 ltg; have hl1_3 := Nat.le_of_lt hz1_3; have hA1 := bnext (w0 := w) bgo hb1; have hs1 := hA1.size; clear hb1)
  have hsm := cell_set_map
  exact bodyPost_ret (v := .tuple #[Z4, .int .i64 3]) (by simp only [results, Tryz.results55]; go_simp) rfl ⟨rfl, bgo⟩
set_option maxHeartbeats 1000000 in
theorem packFin_3 (hL : ¬ (f : Int) + 1 < L) (hx : ¬ x < l) (hm : m < x) : Calls Tryz.prog 55 #[LV f e l m, DV c s false x k] w fun x w' => x = .returned (.tuple #[Z4, .int .i64 3]) ∧ Below w.heap.size w w' := by
  go_enter Tryz.func55, Tryz.ntmps55
  go_wp2_with (go_at_call 86; refine (c46 _).mono ?_; rintro x w1 ⟨rfl, hb1⟩; obtain ⟨hc1, hf1⟩ := bcell hb1; have hz1_0 : w.heap.size < w1.heap.size := lt_below hb1 ltg; have hl1_0 := Nat.le_of_lt hz1_0; have hz1_1 : w.heap.size + 1 < w1.heap.size := lt_below hb1 ltg; have hl1_1 := Nat.le_of_lt hz1_1; have hz1_2 : w.heap.size + 1 + 1 < w1.heap.size := lt_below hb1 ltg; have hl1_2 := Nat.le_of_lt hz1_2; have hz1_3 : w.heap.size + 1 + 1 + 1 < w1.heap.size := lt_below hb1 ltg; have hl1_3 := Nat.le_of_lt hz1_3; have hA1 := bnext (w0 := w) bgo hb1; have hs1 := hA1.size; clear hb1)
  have hsm := cell_set_map
  exact bodyPost_ret (v := .tuple #[Z4, .int .i64 3]) (by simp only [results, Tryz.results55]; go_simp) rfl ⟨rfl, bgo⟩
set_option maxHeartbeats 1000000 in
theorem packFin_4 (hL : ¬ (f : Int) + 1 < L) (hx : ¬ x < l) (hm : ¬ m < x) (hL2 : L ≤ f) (hxl : x ≠ l) : Calls Tryz.prog 55 #[LV f e l m, DV c s false x k] w fun x w' => x = .returned (.tuple #[Z4, .int .i64 3]) ∧ Below w.heap.size w w' := by
  go_enter Tryz.func55, Tryz.ntmps55
  go_wp2_with (go_at_call 86; refine (c46 _).mono ?_; rintro x w1 ⟨rfl, hb1⟩; obtain ⟨hc1, hf1⟩ := bcell hb1; have hz1_0 : w.heap.size < w1.heap.size := lt_below hb1 ltg; have hl1_0 := Nat.le_of_lt hz1_0; have hz1_1 : w.heap.size + 1 < w1.heap.size := lt_below hb1 ltg; have hl1_1 := Nat.le_of_lt hz1_1; have hz1_2 : w.heap.size + 1 + 1 < w1.heap.size := lt_below hb1 ltg; have hl1_2 := Nat.le_of_lt hz1_2; have hz1_3 : w.heap.size + 1 + 1 + 1 < w1.heap.size := lt_below hb1 ltg; have hl1_3 := Nat.le_of_lt hz1_3; have hA1 := bnext (w0 := w) bgo hb1; have hs1 := hA1.size; clear hb1)
  have hsm := cell_set_map
  exact bodyPost_ret (v := .tuple #[Z4, .int .i64 3]) (by simp only [results, Tryz.results55]; go_simp) rfl ⟨rfl, bgo⟩
set_option maxHeartbeats 1000000 in
theorem packFin_ok (R : Nat) (hL : ¬ (f : Int) + 1 < L) (hx : ¬ x < l) (hm : ¬ m < x) (hl : -1000000 ≤ l ∧ l ≤ 0) (hm2 : m ≤ 1000000) (h : ¬ L ≤ f ∨ (L ≤ f ∧ x = l))
    (c40 : ∀ w, Calls Tryz.prog 87 #[LV f e l m, .bool s, .int .u64 (x - l), A4 k] w fun x w' => x = .returned (A4 R) ∧ Below w.heap.size w w') :
    Calls Tryz.prog 55 #[LV f e l m, DV c s false x k] w fun x w' => x = .returned (.tuple #[A4 R, .int .i64 0]) ∧ Below w.heap.size w w' := by
  rcases h with h | ⟨h, rfl⟩
  · go_enter Tryz.func55, Tryz.ntmps55
    go_wp2_with (first
      | (go_at_call 86; refine (c46 _).mono ?_; rintro x w1 ⟨rfl, hb1⟩; obtain ⟨hc1, hf1⟩ := bcell hb1; have hz1_0 : w.heap.size < w1.heap.size := lt_below hb1 ltg; have hl1_0 := Nat.le_of_lt hz1_0; have hz1_1 : w.heap.size + 1 < w1.heap.size := lt_below hb1 ltg; have hl1_1 := Nat.le_of_lt hz1_1; have hz1_2 : w.heap.size + 1 + 1 < w1.heap.size := lt_below hb1 ltg; have hl1_2 := Nat.le_of_lt hz1_2; have hz1_3 : w.heap.size + 1 + 1 + 1 < w1.heap.size := lt_below hb1 ltg; have hl1_3 := Nat.le_of_lt hz1_3; have hA1 := bnext (w0 := w) bgo hb1; have hs1 := hA1.size; clear hb1)
      | (go_at_call 87; refine (c40 _).mono ?_; rintro x w2 ⟨rfl, hb2⟩; obtain ⟨hc2, hf2⟩ := bcell hb2; have hz2_0 : w.heap.size < w2.heap.size := lt_below hb2 ltg; have hl2_0 := Nat.le_of_lt hz2_0; have hz2_1 : w.heap.size + 1 < w2.heap.size := lt_below hb2 ltg; have hl2_1 := Nat.le_of_lt hz2_1; have hz2_2 : w.heap.size + 1 + 1 < w2.heap.size := lt_below hb2 ltg; have hl2_2 := Nat.le_of_lt hz2_2; have hz2_3 : w.heap.size + 1 + 1 + 1 < w2.heap.size := lt_below hb2 ltg; have hl2_3 := Nat.le_of_lt hz2_3; have hA2 := bnext (w0 := w) bgo hb2; have hs2 := hA2.size; clear hb2))
    have hsm := cell_set_map
    exact bodyPost_ret (v := .tuple #[A4 R, .int .i64 0]) (by simp only [results, Tryz.results55]; go_simp) rfl ⟨rfl, bgo⟩
  · rw [Int.sub_self] at c40
    go_enter Tryz.func55, Tryz.ntmps55
    go_wp2_with (first
      | (go_at_call 86; refine (c46 _).mono ?_; rintro x w1 ⟨rfl, hb1⟩; obtain ⟨hc1, hf1⟩ := bcell hb1; have hz1_0 : w.heap.size < w1.heap.size := lt_below hb1 ltg; have hl1_0 := Nat.le_of_lt hz1_0; have hz1_1 : w.heap.size + 1 < w1.heap.size := lt_below hb1 ltg; have hl1_1 := Nat.le_of_lt hz1_1; have hz1_2 : w.heap.size + 1 + 1 < w1.heap.size := lt_below hb1 ltg; have hl1_2 := Nat.le_of_lt hz1_2; have hz1_3 : w.heap.size + 1 + 1 + 1 < w1.heap.size := lt_below hb1 ltg; have hl1_3 := Nat.le_of_lt hz1_3; have hA1 := bnext (w0 := w) bgo hb1; have hs1 := hA1.size; clear hb1)
      | (go_at_call 87; refine (c40 _).mono ?_; rintro x w2 ⟨rfl, hb2⟩; obtain ⟨hc2, hf2⟩ := bcell hb2; have hz2_0 : w.heap.size < w2.heap.size := lt_below hb2 ltg; have hl2_0 := Nat.le_of_lt hz2_0; have hz2_1 : w.heap.size + 1 < w2.heap.size := lt_below hb2 ltg; have hl2_1 := Nat.le_of_lt hz2_1; have hz2_2 : w.heap.size + 1 + 1 < w2.heap.size := lt_below hb2 ltg; have hl2_2 := Nat.le_of_lt hz2_2; have hz2_3 : w.heap.size + 1 + 1 + 1 < w2.heap.size := lt_below hb2 ltg; have hl2_3 := Nat.le_of_lt hz2_3; have hA2 := bnext (w0 := w) bgo hb2; have hs2 := hA2.size; clear hb2))
    have hsm := cell_set_map
    exact bodyPost_ret (v := .tuple #[A4 R, .int .i64 0]) (by simp only [results, Tryz.results55]; go_simp) rfl ⟨rfl, bgo⟩
end

/-- is a datum the format's? -/
def isD (f : Nat) (l m : Int) (d : Dat) : Prop :=
  (d.c = 1 ∧ d.g = false ∧ d.k < 2 ^ (f + 1) ∧ l ≤ d.x ∧ d.x ≤ m ∧ (2 ^ f ≤ d.k ∨ d.x = l)) ∨
  (d.c = 2 ∧ d.g = false ∧ d.x = 0 ∧ d.k = 0) ∨
  (d.c = 3 ∧ d.x = 0 ∧ d.k < 2 ^ (f - 1) ∧ (d.k ≠ 0 ∨ d.g = false))
instance (f : Nat) (l m : Int) (d : Dat) : Decidable (isD f l m d) := inferInstanceAs (Decidable (_ ∨ _ ∨ _))
/-- the pattern that means it -/
def pk (f e : Nat) (l : Int) (d : Dat) : Nat :=
  (if d.c = 1 then (d.x - l).toNat * 2 ^ f + d.k else if d.c = 2 then (2 ^ e - 1) * 2 ^ f + 0 else (2 ^ e - 1) * 2 ^ f + (if d.g then d.k else d.k + 2 ^ (f - 1))) + if d.s then 2 ^ (f + e) else 0

theorem packFinite_any (f e : Nat) (l m : Int) (w : World) (s g : Bool) (x : Int) (k : Nat) (h : Fm f e l m) (hk : k < 2 ^ 256) :
    Calls Tryz.prog 55 #[LV f e l m, DV 1 s g x k] w fun r w' => r = .returned (if isD f l m ⟨1, s, g, x, k⟩ then .tuple #[A4 (pk f e l ⟨1, s, g, x, k⟩), .int .i64 0] else .tuple #[Z4, .int .i64 3]) ∧ Below w.heap.size w w' := by
  have hf := h.f240
  have hp := pow_e h.e2 h.e15
  have hm := h.m
  have c46 := fun w => len4' k w
  have hL1 := len4_le (k := f + 1) hk
  have hL0 := len4_le (k := f) hk
  have e1 : ((f + 1 : Nat) : Int) = (f : Int) + 1 := by omega
  rw [e1] at hL1
  cases g with
  | true =>
    rw [if_neg (by unfold isD; simp)]
    exact packFin_g f e l m w 1 x s k _ hf c46
  | false =>
    by_cases h1 : k < 2 ^ (f + 1)
    · have hA : ¬ (f : Int) + 1 < lenL (W4 k) 4 := Int.not_lt.2 (hL1.2 h1)
      by_cases h2 : x < l
      · rw [if_neg (by unfold isD; simp; omega)]
        exact packFin_2 f e l m w 1 x s k _ hf c46 hA h2
      · by_cases h3 : m < x
        · rw [if_neg (by unfold isD; simp; omega)]
          exact packFin_3 f e l m w 1 x s k _ hf c46 hA h2 h3
        · by_cases h4 : k < 2 ^ f ∧ x ≠ l
          · rw [if_neg (by unfold isD; simp; omega)]
            exact packFin_4 f e l m w 1 x s k _ hf c46 hA h2 h3 (hL0.2 h4.1) h4.2
          · rw [if_pos (by unfold isD; refine Or.inl ⟨rfl, rfl, h1, ?_, ?_, ?_⟩ <;> simp only [] <;> omega)]
            have hE : ((x - l).toNat : Int) = x - l := by omega
            have hpc : ((2 : Int) ^ e) = ((2 ^ e : Nat) : Int) := by simp
            have c40 := fun w => join_any f e l m s (x - l).toNat k w h (by rw [hpc] at hm; omega) h1
            rw [hE] at c40
            refine packFin_ok f e l m w 1 x s k _ hf c46 _ hA h2 h3 ⟨h.l1, h.l0⟩ (by have := h.l0; omega) ?_ c40
            by_cases h5 : k < 2 ^ f
            · exact Or.inr ⟨hL0.2 h5, by omega⟩
            · exact Or.inl fun h6 => h5 (hL0.1 h6)
    · rw [if_neg (by unfold isD; simp; omega)]
      have hB : (f : Int) + 1 < lenL (W4 k) 4 := Int.not_le.1 fun h6 => h1 (hL1.1 h6)
      exact packFin_1 f e l m w 1 x s k _ hf c46 hB
end Go.Proofs.YtpfnfaekgaipjaaGreatDoor

namespace Go.Proofs.YtpfnfaekgaipjaaGreatDoor
open Go.RowKit

theorem eq24d (d : Nat) (a0 a1 a2 a3 b0 b1 b2 b3 : Int) (w : World) :
    Sem.run Tryz.prog (Op.equalIn (d + 2) 24 (.agg #[.int .u64 a0, .int .u64 a1, .int .u64 a2, .int .u64 a3]) (.agg #[.int .u64 b0, .int .u64 b1, .int .u64 b2, .int .u64 b3])) w = .ok (decide (a0 = b0 ∧ a1 = b1 ∧ a2 = b2 ∧ a3 = b3)) w := by
  obtain ⟨i22, hi⟩ : ∃ i, Tryz.prog.info? 22 = some i := ⟨_, rfl⟩
  have h := run_equalIn_array (P := Tryz.prog) w (d + 1) (t := 24) (e := 22) (n := 4) #[.int .u64 a0, .int .u64 a1, .int .u64 a2, .int .u64 a3] #[.int .u64 b0, .int .u64 b1, .int .u64 b2, .int .u64 b3] (by kernel_rfl) hi
  refine h.trans ?_
  have hc : Tryz.prog.cellsOf 22 = 1 := by kernel_rfl
  rw [hc]
  simp [List.range_succ, Op.eqItems, go_sem]
  by_cases h0 : a0 = b0 <;> by_cases h1 : a1 = b1 <;> by_cases h2 : a2 = b2 <;> by_cases h3 : a3 = b3 <;> simp [h0, h1, h2, h3]
theorem eq24 (a0 a1 a2 a3 b0 b1 b2 b3 : Int) (w : World) :
    Sem.run Tryz.prog (Op.equalIn 10000 24 (.agg #[.int .u64 a0, .int .u64 a1, .int .u64 a2, .int .u64 a3]) (.agg #[.int .u64 b0, .int .u64 b1, .int .u64 b2, .int .u64 b3])) w = .ok (decide (a0 = b0 ∧ a1 = b1 ∧ a2 = b2 ∧ a3 = b3)) w :=
  eq24d 9998 a0 a1 a2 a3 b0 b1 b2 b3 w
end Go.Proofs.YtpfnfaekgaipjaaGreatDoor

namespace Go.Proofs.YtpfnfaekgaipjaaGreatDoor
open Go.RowKit

section
variable (f e : Nat) (l m : Int) (w : World) (c x : Int) (s : Bool) (k : Nat)
set_option maxHeartbeats 1000000 in
theorem packInf_g : Calls Tryz.prog 56 #[LV f e l m, DV c s true x k] w fun x w' => x = .returned (.tuple #[Z4, .int .i64 3]) ∧ Below w.heap.size w w' := by
  go_enter Tryz.func56, Tryz.ntmps56
  go_wp2
  have hsm := cell_set_map
  exact bodyPost_ret (v := .tuple #[Z4, .int .i64 3]) (by simp only [results, Tryz.results56]; go_simp) rfl ⟨rfl, bgo⟩
set_option maxHeartbeats 1000000 in
theorem packInf_x (hx : (x != 0) = true) : Calls Tryz.prog 56 #[LV f e l m, DV c s false x k] w fun x w' => x = .returned (.tuple #[Z4, .int .i64 3]) ∧ Below w.heap.size w w' := by
  go_enter Tryz.func56, Tryz.ntmps56
  go_wp2
  have hsm := cell_set_map
  exact bodyPost_ret (v := .tuple #[Z4, .int .i64 3]) (by simp only [results, Tryz.results56]; go_simp) rfl ⟨rfl, bgo⟩
set_option maxHeartbeats 1000000 in
theorem packInf_k (hk : decide (W4 k 0 = 0 ∧ W4 k 1 = 0 ∧ W4 k 2 = 0 ∧ W4 k 3 = 0) = false) : Calls Tryz.prog 56 #[LV f e l m, DV c s false 0 k] w fun x w' => x = .returned (.tuple #[Z4, .int .i64 3]) ∧ Below w.heap.size w w' := by
  have h24 := eq24 (W4 k 0) (W4 k 1) (W4 k 2) (W4 k 3) 0 0 0 0
  rw [hk] at h24
  clear hk
  go_enter Tryz.func56, Tryz.ntmps56
  go_wp2
  have hsm := cell_set_map
  exact bodyPost_ret (v := .tuple #[Z4, .int .i64 3]) (by simp only [results, Tryz.results56]; go_simp) rfl ⟨rfl, bgo⟩
set_option maxHeartbeats 1000000 in
theorem packInf_ok (sp : Int) (R : Nat)
    (c20 : ∀ w, Calls Tryz.prog 88 #[LV f e l m] w fun x w' => x = .returned (.int .u64 sp) ∧ Below w.heap.size w w')
    (c40 : ∀ w, Calls Tryz.prog 87 #[LV f e l m, .bool s, .int .u64 sp, Z4] w fun x w' => x = .returned (A4 R) ∧ Below w.heap.size w w') :
    Calls Tryz.prog 56 #[LV f e l m, .agg #[.int .i64 c, .bool s, .bool false, .int .i64 0, .int .u64 0, .int .u64 0, .int .u64 0, .int .u64 0]] w fun x w' => x = .returned (.tuple #[A4 R, .int .i64 0]) ∧ Below w.heap.size w w' := by
  have h24 := eq24 0 0 0 0 0 0 0 0
  rw [decide_eq_true (by decide)] at h24
  go_enter Tryz.func56, Tryz.ntmps56
  go_wp2
  refine wp_tail 7 (by kernel_rfl) (by kernel_rfl) (by kernel_rfl) (fun _ _ d _ _ h => by cases d <;> exact h) fun hne hcell => ?_
  simp only [List.take_succ_cons, List.take_zero, List.drop_succ_cons, List.drop_zero]
  repeat go_big_quiet_step (fail)
  go_big_quiet_step ((go_at_call 88; exact calls_wd _ bk_next (c20 _)))
  repeat go_big_quiet_step (fail)
  go_big_quiet_step ((go_at_call 87; exact calls_wd _ bk_next (c40 _)))
  refine wpQuiet_nil fun w1 hb1 => ?_
  obtain ⟨hc1, hf1⟩ := bcell hb1; have hz1_0 : w.heap.size < w1.heap.size := lt_below hb1 ltg; have hl1_0 := Nat.le_of_lt hz1_0; have hz1_1 : w.heap.size + 1 < w1.heap.size := lt_below hb1 ltg; have hl1_1 := Nat.le_of_lt hz1_1; have hz1_2 : w.heap.size + 1 + 1 < w1.heap.size := lt_below hb1 ltg; have hl1_2 := Nat.le_of_lt hz1_2; have hA1 := bnext (w0 := w) bgo hb1; have hs1 := hA1.size; clear hb1
  have hsm := cell_set_map
  go_wp2
  exact bodyPost_ret (v := .tuple #[A4 R, .int .i64 0]) (by simp only [results, Tryz.results56]; go_simp) rfl ⟨rfl, bgo⟩
end
end Go.Proofs.YtpfnfaekgaipjaaGreatDoor
