/-
  Texts that the proof leans on, joined: Df, Dt, Bw, Bp, Eq, Rl, Dh.
-/
import Derived.Test.YtjjaamdgochilaaDoorJ14
import Derived.Test.YtjjaamdgochilaaDoorJ1
import Derived.Test.YtjjaamdgochilaaDoorJ7
import Derived.Test.YtjjaamdgochilaaDoorJ12
import Derived.DeepKeys
import Derived.Deep.RegionWith
set_option linter.unusedVariables false
set_option linter.unusedSectionVars false
set_option linter.unusedSimpArgs false
set_option maxRecDepth 20000
namespace Go.Proofs.YtjjaamdgochilaaDoor
open Go.RowKit

/-- what the search compares with -/
theorem dl_and (d : Nat) (hd : d < 1024) : ((bits .and .i64 (d : Int) 110 = 110) ↔ (d / 32 % 4 = 3 ∧ d / 2 % 8 = 7)) ∧ bits .and .i64 (d : Int) 255 = ((d % 256 : Nat) : Int) := by
  have h := upTo_all (f := fun d => decide (((bits .and .i64 (d : Int) 110 = 110) ↔ (d / 32 % 4 = 3 ∧ d / 2 % 8 = 7)) ∧ bits .and .i64 (d : Int) 255 = ((d % 256 : Nat) : Int))) (m := 1024) (by decide +kernel) d hd
  exact of_decide_eq_true h
theorem dlM_iff {d : Nat} (hd : d < 1024) (n : Nat) : dlM d n = true ↔ ((dlE n : Int) = (d : Int) ∨ bits .and .i64 (d : Int) 110 = 110 ∧ (dlE n : Int) = bits .and .i64 (d : Int) 255) := by
  obtain ⟨h1, h2⟩ := dl_and d hd
  rw [h1, h2]
  unfold dlM
  simp only [Bool.or_eq_true, Bool.and_eq_true, beq_iff_eq]
  omega
section
variable (d : Nat) (w : World) (N : Nat) (E : Nat → Int) (A B : Int) (hA : bits .and .i64 (d : Int) 110 = A) (hB : bits .and .i64 (d : Int) 255 = B) (hd : d < 1024) (hN : N < 1000)
  (hy : E N = (d : Int) ∨ A = 110 ∧ E N = B) (hn : Hid (∀ i, i < N → ¬ (E i = (d : Int) ∨ A = 110 ∧ E i = B)))
  (c10 : ∀ i : Nat, i < 1000 → ∀ W, Calls Tryd.prog 59 #[.int .i64 (i : Int)] W fun r w' => r = .returned (.tuple #[.int .i64 (E i), .int .i64 0]) ∧ Below W.heap.size W w')
include hA hB hd hN hy hn c10
set_option maxHeartbeats 2000000 in
theorem dcd_w : Calls Tryd.prog 78 #[.int .i64 (d : Int)] w fun r w' => r = .returned (.tuple #[.int .i64 (N : Int), .int .i64 0]) ∧ Below w.heap.size w w' := by
  have h0 : ¬ (d : Int) < 0 := by omega
  have h9 : ¬ 1023 < (d : Int) := by omega
  go_enter Tryd.func78, Tryd.ntmps78
  go_wp2
  go_loopw [2, 3, 13] (fun _ _ t wr => ∃ i : Nat, i ≤ N ∧ t = .int .i64 (i : Int) ∧ Below w.heap.size w wr) (fun _ _ t _ => 1000 - (intOf t).toNat)
  case atStart => exact ⟨0, Nat.zero_le _, rfl, bgo⟩
  case round =>
    obtain ⟨i, hi, rfl, hbw⟩ := hrel
    have hl : (i : Int) < 1000 := by omega
    have c := c10 i (by omega)
    have hsz := hbw.size
    by_cases hiN : i = N
    · subst hiN
      by_cases e1 : E i = (d : Int)
      · have e2 : (E i == (d : Int)) = true := by simpa using e1
        clear hy e1
        generalize E i = Ei at *
        go_wp2_with (go_at_call 59; refine (c _).mono ?_; rintro r w1 ⟨rfl, hb1⟩; obtain ⟨hc1, hf1⟩ := bcell hb1; have hA1 := bnext (w0 := w) bgo hb1; have hs1 := hA1.size; clear hb1)
        exact bodyPost_ret (by simp only [results, Tryd.results78]; go_simp) rfl ⟨rfl, bgo⟩
      · obtain ⟨a1, a2⟩ := hy.resolve_left e1
        have e2 : (E i == (d : Int)) = false := by simpa using e1
        have e3 : (E i == B) = true := by simpa using a2
        subst a1
        clear a2 e1 hy
        generalize E i = Ei at *
        go_wp2_with (go_at_call 59; refine (c _).mono ?_; rintro r w1 ⟨rfl, hb1⟩; obtain ⟨hc1, hf1⟩ := bcell hb1; have hA1 := bnext (w0 := w) bgo hb1; have hs1 := hA1.size; clear hb1)
        exact bodyPost_ret (by simp only [results, Tryd.results78]; go_simp) rfl ⟨rfl, bgo⟩
    · have q := (show ∀ i, i < N → ¬ (E i = (d : Int) ∨ A = 110 ∧ E i = B) from hn) i (by omega)
      have e2 : (E i == (d : Int)) = false := by simpa using fun e => q (Or.inl e)
      clear hy
      by_cases a1 : A = 110
      · have e3 : (E i == B) = false := by simpa using fun e => q (Or.inr ⟨a1, e⟩)
        subst a1
        clear q
        generalize E i = Ei at *
        go_wp2_with (go_at_call 59; refine (c _).mono ?_; rintro r w1 ⟨rfl, hb1⟩; obtain ⟨hc1, hf1⟩ := bcell hb1; have hA1 := bnext (w0 := w) bgo hb1; have hs1 := hA1.size; clear hb1)
        go_roundw
        case rel => exact ⟨i + 1, by omega, by go_num, bgo⟩
        case measure => simp [intOf]; omega
      · have e3 : (A == 110) = false := by simpa using a1
        clear q a1
        generalize E i = Ei at *
        go_wp2_with (go_at_call 59; refine (c _).mono ?_; rintro r w1 ⟨rfl, hb1⟩; obtain ⟨hc1, hf1⟩ := bcell hb1; have hA1 := bnext (w0 := w) bgo hb1; have hs1 := hA1.size; clear hb1)
        go_roundw
        case rel => exact ⟨i + 1, by omega, by go_num, bgo⟩
        case measure => simp [intOf]; omega
end
theorem dcd_v (d : Nat) (hd : d < 1024) (w : World) : Calls Tryd.prog 78 #[.int .i64 (d : Int)] w fun r w' => r = .returned (.tuple #[.int .i64 (dlD d : Int), .int .i64 0]) ∧ Below w.heap.size w w' := by
  obtain ⟨h1, h2, h3⟩ := dl_means d hd
  exact dcd_w d w (dlD d) (fun i => (dlE i : Int)) _ _ rfl rfl hd h1 ((dlM_iff hd _).1 h2) (fun i hi q => by
    have := (dl_only hd (by omega : i < 1000)).1 ((dlM_iff hd i).2 q)
    omega) (fun i hi W => enc_v i hi W)
end Go.Proofs.YtjjaamdgochilaaDoor

namespace Go.Proofs.YtjjaamdgochilaaDoor
open Go.RowKit

theorem owns_new {w : World} {base g k cap n : Nat} {e : TypeId} {xs : List Value} (h : w.ownsRow base e 1 (.slice (some ⟨g, 0, none⟩) k cap) n xs) : base ≤ g := by
  rcases h.2 with ⟨h, _⟩ | ⟨g', cap', cur, he, hb, _⟩
  · cases h
  · cases he; exact hb
set_option maxHeartbeats 1000000 in
theorem trimf_some (b off n c : Nat) (x : Nat → Int) (w : World) (hn : n < 4294967296) (h : Num w (some ⟨b, off, none⟩) n c x) :
    Calls Tryd.prog 58 #[.slice (some ⟨b, off, none⟩) n c] w fun e w' => ∃ g cap, e = .returned (.slice (some ⟨g, 0, none⟩) (sizeL x n) cap) ∧ Num w' (some ⟨g, 0, none⟩) (sizeL x n) cap x ∧ Below w.heap.size w w' ∧ w.heap.size ≤ g := by
  obtain ⟨h1, h2, h3, h4, h5⟩ := h
  have hc : b < w.heap.size ∧ ∀ i, i < n → w.cell? ⟨b, off + i, none⟩ = some (.int .u64 (x i)) := by
    rcases h5 with ⟨h, _⟩ | ⟨b', off', h, hbs, hc⟩
    · cases h
    · cases h; exact ⟨hbs, hc⟩
  obtain ⟨hbs, hc⟩ := hc
  clear h5
  obtain ⟨i0, hi, hz0, hz1, hz2⟩ := info_parts Tryd.info22
  unfold maxLen at h2
  go_enter Tryd.func58, Tryd.ntmps58
  go_wp2
  go_loop [3] (fun t => ∃ k : Nat, k ≤ n ∧ sizeL x k = sizeL x n ∧ (∀ i, k ≤ i → x i = 0) ∧ t = .int .i64 k) (fun t => (intOf t).toNat)
  case atStart => exact ⟨n, Nat.le_refl _, rfl, h4, rfl⟩
  case round =>
    obtain ⟨k, hk, hs, hz, rfl⟩ := hrel
    clear h4
    by_cases h0 : k = 0
    · subst h0
      have HS : Hid (sizeL x n = 0) := hs.symm
      have HN : Hid (Num (w.alloc (.cells #[] 22)) (some ⟨w.heap.size, 0, none⟩) 0 0 x) := ⟨Nat.le_refl _, by unfold maxLen; omega, h3, hz, Or.inr ⟨w.heap.size, 0, rfl, by simp, fun i hi => by omega⟩⟩
      clear hs hz hc h3
      go_wp2
      go_ret
      refine ⟨w.heap.size, 0, ?_, ?_, (Below.refl _ _).alloc (Nat.le_refl _) _, Nat.le_refl _⟩
      · rw [HS.out]; rfl
      · rw [HS.out]; exact HN.out
    · obtain ⟨j, rfl⟩ : ∃ j, k = j + 1 := ⟨k - 1, by omega⟩
      have hcj := hc j (by omega)
      by_cases hzj : x j = 0
      · have HS : Hid (sizeL x j = sizeL x n) := by
          have : sizeL x (j + 1) = sizeL x j := by simp [sizeL, hzj]
          exact this.symm.trans hs
        have HZ : Hid (∀ i, j ≤ i → x i = 0) := fun i hji => by
          by_cases e : i = j
          · rw [e]; exact hzj
          · exact hz i (by omega)
        clear hs hz hc
        go_wp2
        go_round
        case rel => exact ⟨j, by omega, HS.out, HZ.out, by go_num⟩
        case measure => simp [intOf]
      · have HS : Hid (sizeL x n = j + 1) := by
          have : sizeL x (j + 1) = j + 1 := by simp [sizeL, hzj]
          exact hs.symm.trans this
        have HZ : Hid (∀ i, j + 1 ≤ i → x i = 0) := hz
        have HC : Hid (∀ i, i < n → w.cell? ⟨b, off + i, none⟩ = some (.int .u64 (x i))) := hc
        clear hs hz hc
        have HOWN : (w.alloc (.cells #[] 22)).ownsRow w.heap.size 22 1 (.slice (some ⟨w.heap.size, 0, none⟩) 0 0) 0 [] :=
          ⟨rfl, Or.inr ⟨w.heap.size, 0, #[], rfl, Nat.le_refl _, (MapKept.heap_alloc w _).1, Nat.le_refl _, by unfold maxLen; omega, rfl, rfl⟩⟩
        have HNEWS : ∀ (q : Nat) (u : Value), ((List.range (j + 1)).map fun i => Value.int .u64 (x i))[q]? = some u → (w.alloc (.cells #[] 22)).cell? ((⟨b, off, none⟩ : Addr).add q) = some u := by
          intro q u hq
          have hql : q < j + 1 := by
            rcases Nat.lt_or_ge q (j + 1) with h | h
            · exact h
            · rw [List.getElem?_eq_none (by simpa using h)] at hq; cases hq
          have e2 : u = .int .u64 (x q) := by simpa [hql] using hq.symm
          rw [e2]
          have ea : (⟨b, off, none⟩ : Addr).add q = ⟨b, off + q, none⟩ := by simp [Addr.add]
          rw [ea]
          exact (((Below.refl w.heap.size w).alloc (Nat.le_refl _) _).cell (p := ⟨b, off + q, none⟩) hbs).trans (HC.out q (by omega))
        have HONE : ∀ u ∈ ((List.range (j + 1)).map fun i => Value.int .u64 (x i)), u.oneCell' = true := by
          intro u hu
          obtain ⟨q, _, rfl⟩ := List.mem_map.1 hu
          rfl
        go_wp2_with (at_builtin; refine wpList_append_lies _ rfl (.tmp 18) (.tmp 21) 57 rfl w.heap.size 22 i0 (.int .u64 0) 1 8 Tryd.underlying57 hi hz0 hz1 hz2 rfl (by decide) (.slice (some ⟨w.heap.size, 0, none⟩) 0 0) 0 [] rfl HOWN ⟨b, off, none⟩ (j + 1) c ((List.range (j + 1)).map fun i => Value.int .u64 (x i)) rfl (by simp) HNEWS HONE (by omega) (by unfold maxLen; omega) (by omega) (by simp) (w.heap.size + 1) (by simp) ?_; intro g cap w1 hown hgrow hat hlt; clear HOWN HNEWS HONE)
        have hown' : w1.ownsRow w.heap.size 22 1 (.slice (some ⟨g, 0, none⟩) (j + 1) cap) (j + 1) ((List.range (j + 1)).map fun i => Value.int .u64 (x i)) := by
          have e0 : 0 + (j + 1) = j + 1 := by omega
          rw [e0] at hown
          simpa using hown
        have HG := owns_new hown'
        have HN := num_of_owns (w := w) h3 HZ.out hown' hlt
        have HB : Below w.heap.size w w1 := ((Below.refl _ _).alloc (Nat.le_refl _) _).grown hgrow (by simp) (by intro k hk; cases hk; exact Nat.le_refl _)
        clear hown hown' hgrow
        go_wp2
        go_ret
        refine ⟨g, cap, ?_, ?_, HB, HG⟩
        · rw [HS.out]; simp
        · rw [HS.out]; exact HN

set_option maxHeartbeats 400000 in
theorem trimf_nil (x : Nat → Int) (w : World) (hx : ∀ i, x i = 0) :
    Calls Tryd.prog 58 #[.slice none 0 0] w fun e w' => ∃ g cap, e = .returned (.slice (some ⟨g, 0, none⟩) 0 cap) ∧ Num w' (some ⟨g, 0, none⟩) 0 cap x ∧ Below w.heap.size w w' ∧ w.heap.size ≤ g := by
  go_enter Tryd.func58, Tryd.ntmps58
  go_wp2
  go_loop [3] (fun t => t = .int .i64 0) (fun t => (intOf t).toNat)
  case atStart => rfl
  case round =>
    subst hrel
    go_wp2
    go_ret
    refine ⟨w.heap.size, 0, rfl, ?_, (Below.refl _ _).alloc (Nat.le_refl _) _, Nat.le_refl _⟩
    exact ⟨Nat.le_refl _, by unfold maxLen; omega, fun i => by rw [hx i]; decide, fun i _ => hx i, Or.inr ⟨w.heap.size, 0, rfl, by simp, fun i hi => by omega⟩⟩
theorem trimf_any (a : Option Addr) (n c : Nat) (x : Nat → Int) (w : World) (hn : n < 4294967296) (h : Num w a n c x) :
    Calls Tryd.prog 58 #[.slice a n c] w fun e w' => ∃ g cap, e = .returned (.slice (some ⟨g, 0, none⟩) (sizeL x n) cap) ∧ Num w' (some ⟨g, 0, none⟩) (sizeL x n) cap x ∧ Below w.heap.size w w' ∧ w.heap.size ≤ g := by
  have h' := h
  obtain ⟨h1, h2, h3, h4, h5⟩ := h'
  rcases h5 with ⟨rfl, rfl⟩ | ⟨b, off, rfl, _, _⟩
  · obtain rfl : n = 0 := by omega
    exact trimf_nil x w (fun i => h4 i (Nat.zero_le _))
  · exact trimf_some b off n c x w hn h
set_option maxHeartbeats 400000 in
theorem off_any (c : Int) (w : World) (hc : 0 ≤ c ∧ c ≤ 18446744073709551615) :
    Calls Tryd.prog 82 #[.int .u64 c] w fun e w' => ∃ g k cap z, e = .returned (.slice (some ⟨g, 0, none⟩) k cap) ∧ k ≤ 1 ∧ Num w' (some ⟨g, 0, none⟩) k cap z ∧ val z k = c ∧ Below w.heap.size w w' ∧ sizeL z k = k := by
  have hN := num_one w c hc
  have hT := trim_any _ 1 1 (oneW c) _ (by omega) hN
  have hle := sizeL_le (oneW c) 1
  have HV : Hid (val (oneW c) (sizeL (oneW c) 1) = c) := by show _ = _; rw [val_bare, val_one _ 1 (by omega)]
  have HB := below1 w (.cells #[.int .u64 c] 22)
  have HST : Hid (sizeL (oneW c) (sizeL (oneW c) 1) = sizeL (oneW c) 1) := sizeL_sizeL _ _
  generalize sizeL (oneW c) 1 = s at *
  clear hN
  go_enter Tryd.func82, Tryd.ntmps82
  go_wp2_with (go_at_call 58; refine hT.mono ?_; rintro e w1 ⟨g, cap, rfl, hN, hB⟩)
  go_ret
  exact ⟨g, s, cap, _, rfl, hle, hN, HV.out, HB.trans (hB.mono HB.size), HST.out⟩
/-- the quotient's words from k on -/
def quoKc (x : Nat → Int) (d : Int) (s k i : Nat) : Int := if k ≤ i ∧ i < s then quoW x d s i else 0
set_option maxHeartbeats 1000000 in
theorem smf_any (a : Option Addr) (s c : Nat) (x : Nat → Int) (d : Int) (w : World) (hs : s < 100000) (h : Num w a s c x) (hd : 0 < d ∧ d ≤ 18446744073709551615) :
    Calls Tryd.prog 61 #[.slice a s c, .int .u64 d] w fun e w' => ∃ g k cap z g' k' cap' z', e = .returned (.tuple #[.slice (some ⟨g, 0, none⟩) k cap, .slice (some ⟨g', 0, none⟩) k' cap']) ∧ k ≤ s ∧ k' ≤ 1 ∧ Num w' (some ⟨g, 0, none⟩) k cap z ∧ Num w' (some ⟨g', 0, none⟩) k' cap' z' ∧ val z k = val x s / d ∧ sizeL z k = k ∧ val z' k' = val x s % d ∧ sizeL z' k' = k' ∧ Below w.heap.size w w' ∧ w.heap.size ≤ g := by
  have hx := h.2.2.1
  have H := fun j hj w => limDiv_ok x d s hx hd j hj w
  have hd0 : (d == 0) = false := by simp; omega
  have hmk := fun w => make_any (s : Int) s rfl (by omega) w
  have hA := apart_of h
  have hBW := below1 w (.cells (arrOf (fun _ => 0) s) 22)
  have hnx := h.next hBW
  have hO := Own.new w (fun _ => 0) s
  have hqv := quo_val hx hd.1 s
  have HQW : Hid (Words (quoW x d s)) := quoW_words hx hd.1 s
  have hrb := remJ_bd x d s s hd.1
  have HB : Hid (Below w.heap.size w (w.alloc (.cells (arrOf (fun _ => 0) s) 22))) := hBW
  clear hBW h hx
  go_enter Tryd.func61, Tryd.ntmps61
  go_wp2
  generalize w.alloc (.cells (arrOf (fun _ => 0) s) 22) = wA at *
  go_loopw [7, 8, 19] (fun c i u19 wr => ∃ (k : Nat), k ≤ s ∧ i = .int .i64 ((k : Int) - 1) ∧ c = .int .u64 (remJ x d s (s - k)) ∧ Own w.heap.size s (quoKc x d s k) wr ∧ Upd w.heap.size wA wr) (fun _ i _ _ => (intOf i + 1).toNat)
  case atStart => exact ⟨s, Nat.le_refl _, by go_num, by rw [Nat.sub_self]; rfl, hO.congr fun i _ => by unfold quoKc; rw [if_neg (by omega)], Upd.refl _ _⟩
  case round =>
    clear hO
    obtain ⟨k, hk, rfl, rfl, hO, hU⟩ := hrel
    by_cases h0 : k = 0
    · subst h0
      have hN := hO.num (x := quoKc x d s 0) (fun i => by unfold quoKc; split; exact HQW.out i; decide) 0 s s (by omega) (Nat.le_refl _) (by unfold maxLen; omega)
      have hT := trimf_any _ s s _ _ (by omega) hN
      have hle := sizeL_le (segW (quoKc x d s 0) 0 s) s
      have HV : Hid (val (segW (quoKc x d s 0) 0 s) (sizeL (segW (quoKc x d s 0) 0 s) s) = val x s / d) := by
        show _ = _
        rw [val_bare, val_congr (y := quoW x d s) s fun i hi => by rw [segW_lt _ _ _ i hi, Nat.zero_add]; unfold quoKc; rw [if_pos (by omega)], hqv.1]
      have HR : Hid (remJ x d s s = val x s % d) := hqv.2
      have HBr : Hid (Below w.heap.size w wr) := HB.out.trans (hU.below (Nat.le_refl _))
      have HST : Hid (sizeL (segW (quoKc x d s 0) 0 s) (sizeL (segW (quoKc x d s 0) 0 s) s) = sizeL (segW (quoKc x d s 0) 0 s) s) := sizeL_sizeL _ _
      generalize segW (quoKc x d s 0) 0 s = qz at *
      generalize sizeL qz s = k1 at *
      have hof := fun wr => off_any (remJ x d s s) wr (by omega)
      rw [Nat.sub_zero]
      generalize remJ x d s s = rm at *
      clear hN hO hU H hqv
      go_wp2_with (go_at_call 58; refine hT.mono ?_; rintro e w1 ⟨g, cap, rfl, hN1, hB1, hG1⟩; clear hT)
      go_wp2_with (go_at_call 82; refine (hof _).mono ?_; rintro e w2 ⟨g2, k2, p2, z2, rfl, hk2, hN2, hv2, hB2, hS2⟩; clear hof)
      go_ret2
      exact ⟨g, k1, cap, qz, g2, k2, p2, z2, rfl, hle, hk2, hN1.next hB2, hN2, HV.out, HST.out, by rw [hv2, HR.out], hS2, (HBr.out.trans (hB1.mono HBr.out.size)).trans (hB2.mono (Nat.le_trans HBr.out.size hB1.size)), Nat.le_trans HBr.out.size hG1⟩
    · obtain ⟨j, rfl⟩ : ∃ j, k = j + 1 := ⟨k - 1, by omega⟩
      have hjm : (j : Int) < s := by omega
      have ej : ((j + 1 : Nat) : Int) - 1 = j := by omega
      have ej2 : s - (j + 1) = s - 1 - j := by omega
      rw [ej, ej2]
      obtain ⟨b, off, rfl, hbs, hc⟩ := (hU.num' hA hnx).cells (by omega)
      have hcx := hc j (by omega)
      have hcj : ∃ u, wr.cell? ⟨w.heap.size, j, none⟩ = some (.int .u64 u) := ⟨_, hO.cell j (by omega)⟩
      obtain ⟨u, hcj⟩ := hcj
      have hfj := hO.frozen j
      have HJ := H j (by omega)
      have HO : Hid (Own w.heap.size s (quoKc x d s j) (wr.setCell ⟨w.heap.size, j, none⟩ (.int .u64 (quoW x d s j)))) := (hO.set j (quoW x d s j)).congr fun i hi => by
        unfold quoKc
        by_cases e : i = j
        · subst e; rw [if_pos rfl, if_pos (by omega)]
        · rw [if_neg e]
          by_cases e2 : j + 1 ≤ i ∧ i < s
          · rw [if_pos e2, if_pos (by omega)]
          · rw [if_neg e2, if_neg (by omega)]
      have HU : Hid (Upd w.heap.size wA (wr.setCell ⟨w.heap.size, j, none⟩ (.int .u64 (quoW x d s j)))) := hU.set j _
      clear hO hU H ej ej2 hc hqv hA hnx
      go_wp2_with (go_at_call 81; refine (HJ _).mono ?_; rintro e w' ⟨rfl, m', rfl⟩)
      go_roundw
      case rel => exact ⟨j, by omega, by go_num, rfl, HO.out, HU.out.drewN m'⟩
      case measure => simp [intOf]
set_option maxHeartbeats 1000000 in
theorem overf_one (ga gb s c c' : Nat) (x y : Nat → Int) (w : World) (hs : s < 20001) (h : Num w (some ⟨ga, 0, none⟩) s c x) (h' : Num w (some ⟨gb, 0, none⟩) 1 c' y) (hys : sizeL y 1 = 1) :
    Calls Tryd.prog 29 #[.slice (some ⟨ga, 0, none⟩) s c, .slice (some ⟨gb, 0, none⟩) 1 c'] w fun e w' => ∃ g k cap z g' k' cap' z', e = .returned (.tuple #[.slice (some ⟨g, 0, none⟩) k cap, .slice (some ⟨g', 0, none⟩) k' cap']) ∧ k ≤ s ∧ k' ≤ 1 ∧ Num w' (some ⟨g, 0, none⟩) k cap z ∧ Num w' (some ⟨g', 0, none⟩) k' cap' z' ∧ val z k = val x s / val y 1 ∧ sizeL z k = k ∧ val z' k' = val x s % val y 1 ∧ sizeL z' k' = k' ∧ Below w.heap.size w w' ∧ w.heap.size ≤ g := by
  have hy := h'.2.2.1
  have c31 := size_num _ 1 c' y w (by omega) h'
  rw [hys] at c31
  have hy0 : y 0 ≠ 0 := by have := sizeL_top (x := y) 1 (by omega); rw [hys] at this; exact this
  have hyb := hy 0
  have ev : val y 1 = y 0 := by simp [val]
  have c107 := smf_any (some ⟨ga, 0, none⟩) s c x (y 0) w (by omega) h (by omega)
  have hc : gb < w.heap.size ∧ w.cell? ⟨gb, 0, none⟩ = some (.int .u64 (y 0)) := by
    rcases h'.2.2.2.2 with ⟨h, _⟩ | ⟨b', off', h, hbs, hc⟩
    · cases h
    · cases h; exact ⟨hbs, hc 0 (by omega)⟩
  obtain ⟨hgb, hcc⟩ := hc
  rw [ev]
  clear h h'
  go_enter Tryd.func29, Tryd.ntmps29
  go_wp2_with (first | (go_at_call 60; refine c31.mono ?_; rintro e w' ⟨rfl, rfl⟩) | (go_at_call 61; refine c107.mono ?_; rintro e w1 ⟨g, k, cap, z, g', k', cap', z', rfl, hk, hk', hN, hN', hv, hs1, hv', hs2, hB, hG⟩))
  go_ret2
  exact ⟨g, k, cap, z, g', k', cap', z', rfl, hk, hk', hN, hN', hv, hs1, hv', hs2, hB, hG⟩
/-- a number's quotient and rest by one word: the quotient lies in new memory -/
theorem over_new {K N D : Nat} {vn vd : Value} {w : World} (hK : K ≤ 20000) (h : NT K N vn w) (h' : NT 1 D vd w) (hD : D ≠ 0) :
    Calls Tryd.prog 29 #[vn, vd] w fun e w' => ∃ g k cap r, e = .returned (.tuple #[.slice (some ⟨g, 0, none⟩) k cap, r]) ∧ w.heap.size ≤ g ∧ NT K (N / D) (.slice (some ⟨g, 0, none⟩) k cap) w' ∧ NT 1 (N % D) r w' ∧ Below w.heap.size w w' := by
  obtain ⟨ga, s, c, x, rfl, hs, hN, hx, hxs⟩ := h
  obtain ⟨gb, t, c', y, rfl, ht, hN', hy, hys⟩ := h'
  have ht1 : t = 1 := by
    rcases Nat.eq_zero_or_pos t with e | e
    · subst e
      have : val y 0 = 0 := rfl
      omega
    · omega
  subst ht1
  refine (overf_one ga gb s c c' x y w (by omega) hN hN' hys).mono ?_
  rintro e w' ⟨g, k, cap, z, g', k', cap', z', e1, hk, hk', hA, hB, hv, hs1, hv', hs2, hb, hg⟩
  refine ⟨g, k, cap, _, e1, hg, ⟨g, k, cap, z, rfl, by omega, hA, ?_, hs1⟩, ⟨g', k', cap', z', rfl, hk', hB, ?_, hs2⟩, hb⟩
  · rw [hv, hx, hy]; rfl
  · rw [hv', hx, hy]; rfl
end Go.Proofs.YtjjaamdgochilaaDoor

namespace Go.Proofs.YtjjaamdgochilaaDoor
open Go.RowKit

/-- what a pattern means -/
def unp (f e : Nat) (l : Int) (B : Nat) : Dat :=
  if B / 2 ^ f % 2 ^ e = 2 ^ e - 1 then spc f (sgB f e B) (B % 2 ^ f)
  else if B / 2 ^ f % 2 ^ e = 0 then ⟨1, sgB f e B, false, l, B % 2 ^ f⟩
  else ⟨1, sgB f e B, false, l + ((B / 2 ^ f % 2 ^ e : Nat) - 1 : Int), B % 2 ^ f + 2 ^ f⟩

end Go.Proofs.YtjjaamdgochilaaDoor

namespace Go.Proofs.YtjjaamdgochilaaDoor
open Go.RowKit

abbrev Z4 : Value := .agg #[.int .u64 0, .int .u64 0, .int .u64 0, .int .u64 0]
theorem Z4_eq : A4 0 = Z4 := by unfold A4 Z4; simp only [W4_zero]

/-- is a datum the format's? -/
def isD (f : Nat) (l m : Int) (d : Dat) : Prop :=
  (d.c = 1 ∧ d.g = false ∧ d.k < 2 ^ (f + 1) ∧ l ≤ d.x ∧ d.x ≤ m ∧ (2 ^ f ≤ d.k ∨ d.x = l)) ∨
  (d.c = 2 ∧ d.g = false ∧ d.x = 0 ∧ d.k = 0) ∨
  (d.c = 3 ∧ d.x = 0 ∧ d.k < 2 ^ (f - 1) ∧ (d.k ≠ 0 ∨ d.g = false))
instance (f : Nat) (l m : Int) (d : Dat) : Decidable (isD f l m d) := inferInstanceAs (Decidable (_ ∨ _ ∨ _))
end Go.Proofs.YtjjaamdgochilaaDoor

namespace Go.Proofs.YtjjaamdgochilaaDoor
open Go.RowKit

theorem eq24d (d : Nat) (a0 a1 a2 a3 b0 b1 b2 b3 : Int) (w : World) :
    Sem.run Tryd.prog (Op.equalIn (d + 2) 24 (.agg #[.int .u64 a0, .int .u64 a1, .int .u64 a2, .int .u64 a3]) (.agg #[.int .u64 b0, .int .u64 b1, .int .u64 b2, .int .u64 b3])) w = .ok (decide (a0 = b0 ∧ a1 = b1 ∧ a2 = b2 ∧ a3 = b3)) w := by
  obtain ⟨i22, hi⟩ : ∃ i, Tryd.prog.info? 22 = some i := ⟨_, rfl⟩
  have h := run_equalIn_array (P := Tryd.prog) w (d + 1) (t := 24) (e := 22) (n := 4) #[.int .u64 a0, .int .u64 a1, .int .u64 a2, .int .u64 a3] #[.int .u64 b0, .int .u64 b1, .int .u64 b2, .int .u64 b3] (by kernel_rfl) hi
  refine h.trans ?_
  have hc : Tryd.prog.cellsOf 22 = 1 := by kernel_rfl
  rw [hc]
  simp [List.range_succ, Op.eqItems, go_sem]
  by_cases h0 : a0 = b0 <;> by_cases h1 : a1 = b1 <;> by_cases h2 : a2 = b2 <;> by_cases h3 : a3 = b3 <;> simp [h0, h1, h2, h3]
theorem eq24 (a0 a1 a2 a3 b0 b1 b2 b3 : Int) (w : World) :
    Sem.run Tryd.prog (Op.equalIn 10000 24 (.agg #[.int .u64 a0, .int .u64 a1, .int .u64 a2, .int .u64 a3]) (.agg #[.int .u64 b0, .int .u64 b1, .int .u64 b2, .int .u64 b3])) w = .ok (decide (a0 = b0 ∧ a1 = b1 ∧ a2 = b2 ∧ a3 = b3)) w :=
  eq24d 9998 a0 a1 a2 a3 b0 b1 b2 b3 w
theorem eq27d (d : Nat) (c c' : Int) (s s' g g' : Bool) (x x' : Int) (a0 a1 a2 a3 b0 b1 b2 b3 : Int) (w : World) :
    Sem.run Tryd.prog (Op.equalIn (d + 2 + 1) 27 (.agg #[.int .i64 c, .bool s, .bool g, .int .i64 x, .int .u64 a0, .int .u64 a1, .int .u64 a2, .int .u64 a3]) (.agg #[.int .i64 c', .bool s', .bool g', .int .i64 x', .int .u64 b0, .int .u64 b1, .int .u64 b2, .int .u64 b3])) w = .ok (decide (c = c' ∧ s = s' ∧ g = g' ∧ x = x' ∧ a0 = b0 ∧ a1 = b1 ∧ a2 = b2 ∧ a3 = b3)) w := by
  have hst : Tryd.prog.stoodInHeld 27 = false := by kernel_rfl
  have h24 := eq24d d a0 a1 a2 a3 b0 b1 b2 b3 w
  have hp3 : ∀ (xs : Array Value) (o : Nat) (v : Value), xs[o]? = some v → Sem.run Tryd.prog (part 3 xs o) w = .ok v w := fun xs o v h => by simp [go_sem, part, h]
  rw [Op.equalIn]
  simp only [Sem.run_bind, run_underlying Tryd.underlying27, Result.andThen_ok]
  have hprog : Sem.run Tryd.prog program w = .ok Tryd.prog w := rfl
  rw [hprog]
  simp only [Result.andThen_ok, hst, Bool.false_eq_true, if_false]
  simp [List.forIn_toArray, List.forIn_cons, go_sem, h24]
  by_cases h1 : c = c'
  · by_cases h2 : s = s'
    · by_cases h3 : g = g'
      · by_cases h4 : x = x'
        · by_cases h5 : a0 = b0 <;> by_cases h6 : a1 = b1 <;> by_cases h7 : a2 = b2 <;> by_cases h8 : a3 = b3 <;> simp [h1, h2, h3, h4, h5, h6, h7, h8]
        · simp [h1, h2, h3, h4]
      · simp [h1, h2, h3]
    · simp [h1, h2]
  · simp [h1]
theorem eq27 (c c' : Int) (s s' g g' : Bool) (x x' : Int) (a0 a1 a2 a3 b0 b1 b2 b3 : Int) (w : World) :
    Sem.run Tryd.prog (Op.equalIn 10000 27 (.agg #[.int .i64 c, .bool s, .bool g, .int .i64 x, .int .u64 a0, .int .u64 a1, .int .u64 a2, .int .u64 a3]) (.agg #[.int .i64 c', .bool s', .bool g', .int .i64 x', .int .u64 b0, .int .u64 b1, .int .u64 b2, .int .u64 b3])) w = .ok (decide (c = c' ∧ s = s' ∧ g = g' ∧ x = x' ∧ a0 = b0 ∧ a1 = b1 ∧ a2 = b2 ∧ a3 = b3)) w :=
  eq27d 9997 c c' s s' g g' x x' a0 a1 a2 a3 b0 b1 b2 b3 w
end Go.Proofs.YtjjaamdgochilaaDoor

namespace Go.Proofs.YtjjaamdgochilaaDoor
open Go.RowKit

set_option maxHeartbeats 1000000 in
theorem lay_any (B A at_ K : Nat) (v : Value) (w : World) (hB : B < 2 ^ 256) (hK : K < 900) (ha : at_ ≤ 600) (h : NV K A v w) :
    Calls Tryd.prog 26 #[A4 B, v, .int .i64 at_] w fun e w' => e = .returned (A4 (B + A * 2 ^ at_)) ∧ Below w.heap.size w w' := by
  have c52 : ∀ W, Below w.heap.size w W → Calls Tryd.prog 52 #[v, .int .i64 at_] W fun e w' => ∃ v', e = .returned v' ∧ NV (K + 11) (A * 2 ^ at_) v' w' ∧ Below W.heap.size W w' := fun W hW => rleft_nv at_ (by omega) ha (h.next hW)
  clear h
  go_enter Tryd.func26, Tryd.ntmps26
  go_wp2
  go_region_with (first
    | (go_at_call 52; refine (c52 _ bgo).mono ?_; rintro e w1 ⟨v1, rfl, hl, hb1⟩; have hbx := box_nv (w0 := w) (B := B) (t := 24) hB (bnext bgo hb1); obtain ⟨hc1, hf1⟩ := bcell hb1; have hz1_0 : w.heap.size < w1.heap.size := lt_below hb1 ltg; have hl1_0 := Nat.le_of_lt hz1_0; have hz1_1 : w.heap.size + 1 < w1.heap.size := lt_below hb1 ltg; have hl1_1 := Nat.le_of_lt hz1_1; have hA1 := bnext (w0 := w) bgo hb1; have hs1 := hA1.size; clear hb1)
    | (go_at_call 50; refine (radd_nv (by decide) (by omega) hbx hl).mono ?_; rintro e w2 ⟨v2, rfl, hs, hb2⟩; obtain ⟨hc2, hf2⟩ := bcell hb2; have hz2_0 : w.heap.size < w2.heap.size := lt_below hb2 ltg; have hl2_0 := Nat.le_of_lt hz2_0; have hz2_1 : w.heap.size + 1 < w2.heap.size := lt_below hb2 ltg; have hl2_1 := Nat.le_of_lt hz2_1; have hA2 := bnext (w0 := w) bgo hb2; have hs2 := hA2.size; clear hb2)
    | (go_at_call 31; refine (bits_nv hs).mono ?_; rintro e w3 ⟨rfl, hb3⟩; obtain ⟨hc3, hf3⟩ := bcell hb3; have hz3_0 : w.heap.size < w3.heap.size := lt_below hb3 ltg; have hl3_0 := Nat.le_of_lt hz3_0; have hz3_1 : w.heap.size + 1 < w3.heap.size := lt_below hb3 ltg; have hl3_1 := Nat.le_of_lt hz3_1; have hA3 := bnext (w0 := w) bgo hb3; have hs3 := hA3.size; clear hb3))
  have hsm := cell_set_map
  go_wp2
  exact bodyPost_ret (v := A4 (B + A * 2 ^ at_)) (by simp only [results, Tryd.results26]; go_simp) rfl ⟨rfl, bgo⟩
theorem rfits4 (n : Int) (B : Nat) (hB : B < 2 ^ 256) (w : World) :
    Calls Tryd.prog 47 #[.int .i64 n, A4 B] w fun x w' => x = .returned (.bool (decide (okN n ∧ B < 2 ^ (widthN n).toNat))) ∧ Below w.heap.size w w' := by
  refine (rfits_any n (W4 B) (W4_words B) _ (A4_get B) rfl w).mono ?_
  rintro x w' ⟨rfl, hb⟩
  refine ⟨?_, hb⟩
  have hwd := (fields_bounds n).2.1
  have e : (fitsP n (W4 B)) ↔ (okN n ∧ B < 2 ^ (widthN n).toNat) := by
    unfold fitsP
    rw [lenL_low]
    have := len4_le (k := (widthN n).toNat) hB
    rw [show (((widthN n).toNat : Nat) : Int) = widthN n by omega] at this
    rw [this]
  rw [decide_eq_decide.2 e]
end Go.Proofs.YtjjaamdgochilaaDoor

namespace Go.Proofs.YtjjaamdgochilaaDoor
open Go.RowKit

/-- a pattern lies in a block of its own -/
structure C4 (g X : Nat) (w : World) : Prop where
  lt : g < w.heap.size
  c0 : w.cell? ⟨g, 0, none⟩ = some (.int .u64 (W4 X 0))
  c1 : w.cell? ⟨g, 1, none⟩ = some (.int .u64 (W4 X 1))
  c2 : w.cell? ⟨g, 2, none⟩ = some (.int .u64 (W4 X 2))
  c3 : w.cell? ⟨g, 3, none⟩ = some (.int .u64 (W4 X 3))
  f0 : w.frozen? ⟨g, 0, none⟩ = false
  f1 : w.frozen? ⟨g, 1, none⟩ = false
  f2 : w.frozen? ⟨g, 2, none⟩ = false
  f3 : w.frozen? ⟨g, 3, none⟩ = false
theorem C4.next {g X : Nat} {w w' : World} (h : C4 g X w) (hb : Below w.heap.size w w') : C4 g X w' :=
  ⟨Nat.lt_of_lt_of_le h.lt hb.size, (hb.cell (p := ⟨g, 0, none⟩) h.lt).trans h.c0, (hb.cell (p := ⟨g, 1, none⟩) h.lt).trans h.c1, (hb.cell (p := ⟨g, 2, none⟩) h.lt).trans h.c2, (hb.cell (p := ⟨g, 3, none⟩) h.lt).trans h.c3,
    (hb.frozen (p := ⟨g, 0, none⟩) h.lt).trans h.f0, (hb.frozen (p := ⟨g, 1, none⟩) h.lt).trans h.f1, (hb.frozen (p := ⟨g, 2, none⟩) h.lt).trans h.f2, (hb.frozen (p := ⟨g, 3, none⟩) h.lt).trans h.f3⟩
theorem C4.new (w : World) (t : TypeId) : C4 w.heap.size 0 (w.alloc (.cells #[.int .u64 0, .int .u64 0, .int .u64 0, .int .u64 0] t)) := by
  refine ⟨by simp, ?_, ?_, ?_, ?_, ?_, ?_, ?_, ?_⟩ <;> first | (rw [W4_zero]; go_simp) | go_simp
/-- a pattern written over another one -/
abbrev put4C (w : World) (g X : Nat) : World := (((w.setCell ⟨g, 0, none⟩ (.int .u64 (W4 X 0))).setCell ⟨g, 1, none⟩ (.int .u64 (W4 X 1))).setCell ⟨g, 2, none⟩ (.int .u64 (W4 X 2))).setCell ⟨g, 3, none⟩ (.int .u64 (W4 X 3))
theorem C4.put {g X Y : Nat} {w : World} (h : C4 g X w) : C4 g Y (put4C w g Y) := by
  have hsm := cell_set_map
  obtain ⟨h0, h1, h2, h3, h4, h5, h6, h7, h8⟩ := h
  refine ⟨by simp; exact h0, ?_, ?_, ?_, ?_, ?_, ?_, ?_, ?_⟩ <;> go_simp
theorem put4C_upd (w : World) (g X : Nat) : Upd g w (put4C w g X) := ((((Upd.refl g w).set 0 _).set 1 _).set 2 _).set 3 _
/-- a number elsewhere stays -/
theorem NT.upd {K V g b k c : Nat} {w w' : World} (h : NT K V (.slice (some ⟨b, 0, none⟩) k c) w) (hne : b ≠ g) (hU : Upd g w w') : NT K V (.slice (some ⟨b, 0, none⟩) k c) w' := by
  obtain ⟨g', k', c', z, e, hk, hN, hv, hs⟩ := h
  cases e
  exact ⟨b, k, c, z, rfl, hk, hU.num hne hN, hv, hs⟩
theorem NT.lt {K V b k c : Nat} {w : World} (h : NT K V (.slice (some ⟨b, 0, none⟩) k c) w) : b < w.heap.size := by
  obtain ⟨g', k', c', z, e, hk, hN, hv, hs⟩ := h
  cases e
  rcases hN.2.2.2.2 with ⟨h, _⟩ | ⟨b', off', h, hbs, _⟩
  · cases h
  · cases h; exact hbs
theorem nt_thou {W : World} {g : Nat} (hg : g = W.heap.size) : NT 1 1000 (.slice (some ⟨g, 0, none⟩) 1 1) (W.alloc (.cells #[.int .u64 1000] 22)) := by
  subst hg
  exact ⟨_, 1, 1, oneW 1000, rfl, Nat.le_refl _, num_one W 1000 (by omega), by simp [val, oneW], by simp [sizeL, oneW]⟩
theorem nv_dec {W : World} {g V : Nat} {vi : Int} (hg : g = W.heap.size) (hv : vi = (V : Int)) (hb : V < 18446744073709551616) : NV 1 V (.slice (some ⟨g, 0, none⟩) 1 1) (W.alloc (.cells #[.int .u64 vi] 22)) := by
  subst hg hv
  exact ⟨_, 1, 1, oneW V, rfl, Nat.le_refl _, num_one W V (by omega), by simp [val, oneW]⟩
attribute [local irreducible] W4 NT NV
set_option maxHeartbeats 1000000 in
theorem rnat13 (k : Nat) (w : World) (hk : k < 2 ^ 256) :
    Calls Tryd.prog 27 #[A4 k] w fun r w' => ∃ g n cap, r = .returned (.slice (some ⟨g, 0, none⟩) n cap) ∧ w.heap.size < g ∧ NT 4 k (.slice (some ⟨g, 0, none⟩) n cap) w' ∧ Below w.heap.size w w' := by
  have hn0 := box_nv (w0 := w) (B := k) (t := 24) hk (Below.refl _ _)
  have c49 : Calls Tryd.prog 58 #[.slice (some ⟨w.heap.size, 0, none⟩) 4 4] (w.alloc (.cells #[.int .u64 (W4 k 0), .int .u64 (W4 k 1), .int .u64 (W4 k 2), .int .u64 (W4 k 3)] 24)) fun r w' => ∃ g n cap, r = .returned (.slice (some ⟨g, 0, none⟩) n cap) ∧ w.heap.size < g ∧ NT 4 k (.slice (some ⟨g, 0, none⟩) n cap) w' ∧ Below (w.alloc (.cells #[.int .u64 (W4 k 0), .int .u64 (W4 k 1), .int .u64 (W4 k 2), .int .u64 (W4 k 3)] 24)).heap.size (w.alloc (.cells #[.int .u64 (W4 k 0), .int .u64 (W4 k 1), .int .u64 (W4 k 2), .int .u64 (W4 k 3)] 24)) w' := by
    unfold NV at hn0
    obtain ⟨g, n, cap, z, e, hn, hN, hv⟩ := hn0
    cases e
    refine (trimf_any _ 4 4 z _ (by decide) hN).mono ?_
    rintro r w' ⟨g, cap, rfl, hN', hB, hG⟩
    refine ⟨g, _, cap, rfl, by simp at hG; omega, ?_, hB⟩
    unfold NT
    exact ⟨g, _, cap, z, rfl, sizeL_le _ _, hN', by rw [val_bare, hv], sizeL_sizeL _ _⟩
  have hb0 := below1 w (.cells #[.int .u64 (W4 k 0), .int .u64 (W4 k 1), .int .u64 (W4 k 2), .int .u64 (W4 k 3)] 24)
  clear hn0
  unfold A4
  go_enter Tryd.func27, Tryd.ntmps27
  go_wp2_with (go_at_call 58; refine c49.mono ?_; rintro r w1 ⟨g, n, cap, rfl, hg, hv, hb1⟩)
  go_ret
  exact ⟨g, n, cap, rfl, hg, hv, hb0.trans (hb1.mono hb0.size)⟩
set_option maxHeartbeats 400000 in
theorem rpck_bad (C : Nat) (n : Int) (h : n < 0 ∨ 11 < n) (w : World) : Calls Tryd.prog 28 #[A4 C, .int .i64 n] w fun r w' => r = .returned (.tuple #[A4 0, .int .i64 1]) ∧ Below w.heap.size w w' := by
  rw [Z4_eq]
  have hsm := cell_set_map
  by_cases h0 : n < 0
  · go_enter Tryd.func28, Tryd.ntmps28
    go_wp2
    exact bodyPost_ret (by simp only [results, Tryd.results28]; go_simp) rfl ⟨rfl, bgo⟩
  · have h1 : 11 < n := by omega
    go_enter Tryd.func28, Tryd.ntmps28
    go_wp2
    exact bodyPost_ret (by simp only [results, Tryd.results28]; go_simp) rfl ⟨rfl, bgo⟩
section
variable (C c : Nat) (w : World) (A P D : Nat → Nat) (hc : c ≤ 11)
  (c22 : ∀ W, Calls Tryd.prog 27 #[A4 C] W fun r w' => ∃ g n cap, r = .returned (.slice (some ⟨g, 0, none⟩) n cap) ∧ W.heap.size < g ∧ NT 4 (A 0) (.slice (some ⟨g, 0, none⟩) n cap) w' ∧ Below W.heap.size W w')
  (c23 : Hid (∀ i, i < c → ∀ W vn vd, NT 4 (A i) vn W → NT 1 1000 vd W → Calls Tryd.prog 29 #[vn, vd] W fun r w' => ∃ g k cap v, r = .returned (.tuple #[.slice (some ⟨g, 0, none⟩) k cap, v]) ∧ W.heap.size ≤ g ∧ NT 4 (A (i + 1)) (.slice (some ⟨g, 0, none⟩) k cap) w' ∧ NT 1 (A i % 1000) v w' ∧ Below W.heap.size W w'))
  (c24 : Hid (∀ i W v, NT 1 (A i % 1000) v W → Calls Tryd.prog 32 #[v] W fun r w' => r = .returned (.int .i64 ((A i % 1000 : Nat) : Int)) ∧ W = w'))
  (c10 : Hid (∀ i W, Calls Tryd.prog 59 #[.int .i64 ((A i % 1000 : Nat) : Int)] W fun r w' => r = .returned (.tuple #[.int .i64 (D i : Int), .int .i64 0]) ∧ Below W.heap.size W w'))
  (hD : Hid (∀ i, D i < 1024))
  (c25 : Hid (∀ i, i < c → ∀ W v, NV 1 (D i) v W → Calls Tryd.prog 26 #[A4 (P i), v, .int .i64 (10 * (i : Int))] W fun r w' => r = .returned (A4 (P (i + 1))) ∧ Below W.heap.size W w'))
  (hP : P 0 = 0)
include hc c22 c23 c24 c10 hD c25 hP
set_option maxHeartbeats 4000000 in
theorem rpck_w (R : Nat) (E : Int) (hR : (A c = 0 ∧ R = P c ∧ E = 0) ∨ (A c ≠ 0 ∧ R = 0 ∧ E = 3)) : Calls Tryd.prog 28 #[A4 C, .int .i64 (c : Int)] w fun r w' => r = .returned (.tuple #[A4 R, .int .i64 E]) ∧ Below w.heap.size w w' := by
  have h0 : ¬ (c : Int) < 0 := by omega
  have h9 : ¬ 11 < (c : Int) := by omega
  have hsm := cell_set_map
  go_enter Tryd.func28, Tryd.ntmps28
  go_wp2_with (go_at_call 27; refine (c22 _).mono ?_; rintro r w1 ⟨ga, na, ca, rfl, hga, hna, hb1⟩; obtain ⟨hc1, hf1⟩ := bcell hb1; have hz1_0 : w.heap.size < w1.heap.size := lt_below hb1 ltg; have hl1_0 := Nat.le_of_lt hz1_0; have hz1_1 : w.heap.size + 1 < w1.heap.size := lt_below hb1 ltg; have hl1_1 := Nat.le_of_lt hz1_1; have hA1 := bnext (w0 := w) bgo hb1; have hs1 := hA1.size; clear hb1)
  go_loopw [6, 9, 10, 11, 12, 8, 23] (fun t6 _ _ _ _ _ t wr => ∃ (i g k cap : Nat), i ≤ c ∧ t = .int .i64 (i : Int) ∧ t6 = .slice (some ⟨g, 0, none⟩) k cap ∧ g ≠ w1.heap.size ∧ NT 4 (A i) (.slice (some ⟨g, 0, none⟩) k cap) wr ∧ C4 w1.heap.size (P i) wr ∧ C4 (w.heap.size + 1) 0 wr ∧ Below w.heap.size w wr) (fun _ _ _ _ _ _ t _ => c - (intOf t).toNat)
  case atStart =>
    have hga1 := hna.lt
    exact ⟨0, ga, na, ca, Nat.zero_le _, rfl, rfl, by omega, hna.next (below1 _ _), by rw [hP]; exact C4.new _ _, by refine ⟨by simp; omega, ?_, ?_, ?_, ?_, ?_, ?_, ?_, ?_⟩ <;> first | (rw [W4_zero]; go_simp) | go_simp, bgo⟩
  case round =>
    obtain ⟨i, g, k, cap, hi, rfl, rfl, hg, hn, h4, h5, hbw⟩ := hrel
    have hl4 := h4.lt
    have hl5 := h5.lt
    have hl6 : w.heap.size < wr.heap.size := by omega
    have hge : w.heap.size ≤ w1.heap.size := hA1.size
    obtain ⟨_, p0, p1, p2, p3, f0, f1, f2, f3⟩ := id h4
    obtain ⟨_, q0, q1, q2, q3, e0, e1, e2, e3⟩ := id h5
    by_cases hic : i < c
    · have hl : (i : Int) < (c : Int) := by omega
      have d23 := c23.out i hic
      have d24 := c24.out i
      have d10 := c10.out i
      have dD := hD.out i
      have d25 := c25.out i hic
      have dd0 : (0 : Int) ≤ (D i : Int) := by omega
      have dd1 : (D i : Int) ≤ 1023 := by omega
      clear hR
      generalize D i = Di at *
      generalize A i % 1000 = Xi at *
      generalize P i = Pi at *
      go_wp2_with (first
        | (go_at_call 29; refine (d23 _ _ _ (hn.next (below1 _ _)) (nt_thou rfl)).mono ?_; rintro r w2 ⟨g2, k2, cap2, v2, rfl, hg2, hn2, hr2, hb2⟩; have hq2 := (h4.next (below1 _ _)).next hb2; have ho2 := (h5.next (below1 _ _)).next hb2; obtain ⟨hc2, hf2⟩ := bcell hb2; have hz2_0 : w1.heap.size < w2.heap.size := lt_below hb2 ltg; have hl2_0 := Nat.le_of_lt hz2_0; have hz2_1 : w.heap.size < w2.heap.size := lt_below hb2 ltg; have hl2_1 := Nat.le_of_lt hz2_1; have hz2_2 : w.heap.size + 1 < w2.heap.size := lt_below hb2 ltg; have hl2_2 := Nat.le_of_lt hz2_2; have hA2 := bnext (w0 := w) bgo hb2; have hs2 := hA2.size; clear hb2)
        | (go_at_call 32; refine (d24 _ _ hr2).mono ?_; rintro r w3 ⟨rfl, rfl⟩)
        | (go_at_call 59; refine (d10 _).mono ?_; rintro r w4 ⟨rfl, hb4⟩; have hn4 := hn2.next hb4; have hq4 := hq2.next hb4; have ho4 := ho2.next hb4; obtain ⟨hc4, hf4⟩ := bcell hb4; have hz4_0 : w1.heap.size < w4.heap.size := lt_below hb4 ltg; have hl4_0 := Nat.le_of_lt hz4_0; have hz4_1 : w.heap.size < w4.heap.size := lt_below hb4 ltg; have hl4_1 := Nat.le_of_lt hz4_1; have hz4_2 : w.heap.size + 1 < w4.heap.size := lt_below hb4 ltg; have hl4_2 := Nat.le_of_lt hz4_2; have hA4 := bnext (w0 := w) bgo hb4; have hs4 := hA4.size; clear hb4)
        | (go_at_call 26; refine (d25 _ _ (nv_dec rfl rfl (by omega))).mono ?_; rintro r w5 ⟨rfl, hb5⟩; have hn5 := (hn4.next (below1 _ _)).next hb5; have hq5 := (hq4.next (below1 _ _)).next hb5; have ho5 := (ho4.next (below1 _ _)).next hb5; obtain ⟨hc5, hf5⟩ := bcell hb5; have hz5_0 : w1.heap.size < w5.heap.size := lt_below hb5 ltg; have hl5_0 := Nat.le_of_lt hz5_0; have hz5_1 : w.heap.size < w5.heap.size := lt_below hb5 ltg; have hl5_1 := Nat.le_of_lt hz5_1; have hz5_2 : w.heap.size + 1 < w5.heap.size := lt_below hb5 ltg; have hl5_2 := Nat.le_of_lt hz5_2; have hA5 := bnext (w0 := w) bgo hb5; have hs5 := hA5.size; clear hb5))
      have hgs : w1.heap.size < g2 := by simp at hg2; omega
      go_roundw
      case rel => exact ⟨i + 1, g2, k2, cap2, by omega, by go_num, rfl, by omega, hn5.upd (by omega) (put4C_upd _ _ _), hq5.put, ⟨by simp; exact ho5.lt, by go_simp, by go_simp, by go_simp, by go_simp, by go_simp, by go_simp, by go_simp, by go_simp⟩, bgo⟩
      case measure => simp [intOf]; omega
    · have hl : ¬ (i : Int) < (c : Int) := by omega
      obtain rfl : i = c := by omega
      obtain ⟨g', k', cap', e', hk', hz⟩ := hn.zero
      cases e'
      rcases hR with ⟨hA0, rfl, rfl⟩ | ⟨hA0, rfl, rfl⟩
      · obtain rfl : k = 0 := hz.2 hA0
        clear hz hA0 hn hk'
        go_wp2
        exact bodyPost_ret (by simp only [results, Tryd.results28]; go_simp) rfl ⟨rfl, bgo⟩
      · have hk0 : (0 : Int) < (k : Int) := by
          have : k ≠ 0 := fun e => hA0 (hz.1 e)
          omega
        clear hz hA0 hn hk'
        go_wp2
        exact bodyPost_ret (v := .tuple #[A4 0, .int .i64 3]) (by rw [Z4_eq]; simp only [results, Tryd.results28]; go_simp) rfl ⟨rfl, bgo⟩
end
theorem rpck_any (C : Nat) (n : Int) (w : World) (hC : C < 2 ^ 256) : Calls Tryd.prog 28 #[A4 C, .int .i64 n] w fun r w' => r = .returned (.tuple #[A4 (dPv C n), .int .i64 (dPe C n)]) ∧ Below w.heap.size w w' := by
  unfold dPv dPe
  by_cases h : 0 ≤ n ∧ n ≤ 11
  · obtain ⟨c, rfl⟩ := Int.eq_ofNat_of_zero_le h.1
    have hc : c ≤ 11 := by omega
    rw [if_pos h, if_pos h, Int.toNat_natCast]
    refine rpck_w C c w (fun i => C / 1000 ^ i) (fun i => dlP i C) (fun i => dlE (C / 1000 ^ i % 1000)) hc (fun W => ?_) (fun i hi W vn vd h1 h2 => ?_) (fun i W v h1 => ?_) (fun i W => ?_) (fun i => ?_) (fun i hi W v h1 => ?_) rfl _ _ ?_
    · have := rnat13 C W hC
      simpa only [Nat.pow_zero, Nat.div_one] using this
    · have := over_new (by decide) h1 h2 (by decide)
      rw [Nat.div_div_eq_div_mul, ← Nat.pow_succ] at this
      exact this
    · refine (number_nv h1.nv (by decide) (by have := Nat.mod_lt (C / 1000 ^ i) (show 0 < 1000 by decide); omega)).mono ?_
      rintro r w' ⟨rfl, rfl⟩
      exact ⟨rfl, rfl⟩
    · exact enc_v _ (Nat.mod_lt _ (by decide)) W
    · exact (dl_back _ (Nat.mod_lt _ (by decide))).2
    · have := lay_any (dlP i C) (dlE (C / 1000 ^ i % 1000)) (10 * i) 1 v W (dlP_256 i C (by omega)) (by decide) (by omega) h1
      rw [show ((10 * i : Nat) : Int) = 10 * (i : Int) by omega, Nat.pow_mul, show (2 : Nat) ^ 10 = 1024 from rfl, ← dlP_snoc] at this
      exact this
    · by_cases hq : C < 1000 ^ c
      · rw [if_pos hq, if_pos hq]
        exact Or.inl ⟨Nat.div_eq_of_lt hq, rfl, rfl⟩
      · rw [if_neg hq, if_neg hq]
        refine Or.inr ⟨?_, rfl, rfl⟩
        have := (Nat.div_pos_iff (a := C) (b := 1000 ^ c)).2 ⟨Nat.pow_pos (by decide), by omega⟩
        omega
  · rw [if_neg h, if_neg h]
    exact rpck_bad C n (by omega) w
end Go.Proofs.YtjjaamdgochilaaDoor
