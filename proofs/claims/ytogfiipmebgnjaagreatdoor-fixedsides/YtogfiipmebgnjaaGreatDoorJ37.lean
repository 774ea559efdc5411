/-
  Texts that the proof leans on, joined: Yf, Fg, Fd, Fh, Ot.
-/
import Derived.Test.YtogfiipmebgnjaaGreatDoorJ36
import Derived.Test.YtogfiipmebgnjaaGreatDoorJ35
import Derived.Test.YtogfiipmebgnjaaGreatDoorJ31
import Derived.Test.YtogfiipmebgnjaaGreatDoorJ29
import Derived.Test.YtogfiipmebgnjaaGreatDoorJ34
import Derived.Test.YtogfiipmebgnjaaGreatDoorJ33
import Derived.Test.YtogfiipmebgnjaaGreatDoorJ1
import Derived.Test.YtogfiipmebgnjaaGreatDoorJ27
import Derived.Test.YtogfiipmebgnjaaGreatDoorJ11
set_option linter.unusedVariables false
set_option linter.unusedSectionVars false
set_option linter.unusedSimpArgs false
set_option maxRecDepth 20000
namespace Go.Proofs.YtogfiipmebgnjaaGreatDoor
open Go.RowKit

theorem pow5_nv (m : Nat) (w : World) (hm : m ≤ 17000) : Calls Tryz.prog 38 #[.int .u64 5, .int .i64 (m : Int)] w fun r w' => ∃ v, r = .returned v ∧ NV 70000 (5 ^ m) v w' ∧ Below w.heap.size w w' := by
  refine (rpow_any 5 m w (by decide) hm).mono ?_
  rintro r w' ⟨g, k, cap, z, rfl, hk, hN, hv, hb⟩
  exact ⟨_, rfl, ⟨g, k, cap, z, rfl, by omega, hN, by rw [hv]; simp⟩, hb⟩
theorem bl_mul_le {a b A B : Nat} (ha : a < 2 ^ A) (hb : b < 2 ^ B) : bl (a * b) ≤ A + B := by
  refine bl_le.2 ?_
  rw [Nat.pow_add]
  exact Nat.mul_lt_mul'' ha hb
end Go.Proofs.YtogfiipmebgnjaaGreatDoor

namespace Go.Proofs.YtogfiipmebgnjaaGreatDoor
open Go.RowKit

/-- what a text's byte is -/
def IDX (b : ByteArray) (i : Nat) (c : Int) : Prop := ∀ h : i < b.size, ((b[i]'h).toNat : Int) = c
noncomputable def opsX9 : List Oper := (Tryz.f12.body.bind (findR 9)).getD []
def slotsX9 : List Nat := [40, 41, 42, 43, 44, 45, 46, 47, 9]
def slotsAX9 : List Nat := [40, 41, 42, 43, 44, 45, 46, 47, 9, 10]
attribute [local irreducible] W4 NT NV
theorem regX9 {h4 k X M P5 F : Nat} {x : Int} {v9 : Value} {a0 : Act} {ws : World} {Q : Exit → Act → World → Prop} (hs : a0.tmps.size = 65) (g7 : slot a0 7 = .pointer (some ⟨h4, 0, none⟩)) (g9 : slot a0 9 = v9) (hv9 : NT 4 k v9 ws) (hx : -1000000 ≤ x ∧ x ≤ 1000000) (hlt : h4 < ws.heap.size) (k3 : ws.cell? ⟨h4, 3, none⟩ = some (.int .i64 x))
    (c11 : ∀ W, Calls Tryz.prog 38 #[.int .u64 5, .int .i64 (-x)] W fun e w' => ∃ v, e = .returned v ∧ NV P5 F v w' ∧ Below W.heap.size W w')
    (c10 : ∀ W v p, NT 4 k v W → NV P5 F p W → Calls Tryz.prog 17 #[v, p] W fun e w' => ∃ u, e = .returned u ∧ NT M X u w' ∧ Below W.heap.size W w')
    (hQ : ∀ (a : Act) (w : World) (u : Value), slot a 9 = u → slot a 10 = .int .i64 x → NT M X u w → a.tmps.size = 65 → a.defers = a0.defers → (∀ t, (∀ i, i < 10 → slotsAX9.getD i 0 ≠ t) → slot a t = slot a0 t) → Below ws.heap.size ws w → Q .normal a w) :
    (Code.region 9 opsX9.toArray true).wp Tryz.prog Q a0 ws := by
  refine wp_region_mem 9 65 slotsX9 [NT 4 k, iW (.pointer (some ⟨h4, 3, none⟩)), iW (.int .i64 x), iW (.int .i64 (-x)), NV P5 F, NT M X, iW (.pointer (some ⟨h4, 3, none⟩)), iW (.int .i64 x), NT M X] (fun w w' => Below w.heap.size w w') (fun L f w => Below ws.heap.size ws w ∧ (¬ L 8 → f 9 = v9)) (by kernel_rfl) (by kernel_rfl) (by kernel_rfl) hs ?_ ⟨(Below.refl _ _).drew, fun _ => g9⟩ ?_ ?_
  · intro p hp
    simp only [List.mem_cons, List.not_mem_nil, or_false] at hp
    rcases hp with rfl | rfl | rfl | rfl | rfl | rfl | rfl | rfl | rfl
    all_goals first | exact fun _ _ _ h _ => h | exact fun _ _ _ h hb => h.next hb
  · intro L i o a w hi ho hL hcl he hM hF hv
    have f7 : slot a 7 = .pointer (some ⟨h4, 0, none⟩) := (hF 7 (by decide)).trans g7
    obtain ⟨hM, hN⟩ := hM
    have hNs : ∀ (t : Nat) (v : Value), t ≠ 9 → ∀ k : Nat, k ≠ 8 → ¬ (L 8 ∨ 8 = k) → (if some t = some 9 then v else slot a 9) = v9 := fun t v ht k hk h => by
      rw [if_neg (fun e => ht (Option.some.inj e))]
      exact hN fun h8 => h (Or.inl h8)
    have hor : i = 0 ∨ i = 1 ∨ i = 2 ∨ i = 3 ∨ i = 4 ∨ i = 5 ∨ i = 6 ∨ i = 7 ∨ i = 8 := by omega
    rcases hor with rfl | rfl | rfl | rfl | rfl | rfl | rfl | rfl | rfl
    · have hL8 : ¬ L 8 := fun h8 => hL (hcl 5 _ (show opsX9[5]? = some _ from rfl) (hcl 8 _ (show opsX9[8]? = some _ from rfl) h8 ⟨5, .data⟩ (by simp) rfl) ⟨0, .data⟩ (by simp) rfl)
      have f9 := hN hL8
      obtain rfl := Option.some.inj (show opsX9[0]? = some o from ho)
      exact og_mv f9 ⟨_, rfl, hv9.next hM, Below.refl _ _, hM, hNs 40 _ (by decide) 0 (by decide)⟩
    · obtain rfl := Option.some.inj (show opsX9[1]? = some o from ho)
      exact og_fad3 f7 ⟨_, rfl, rfl, Below.refl _ _, hM, hNs 41 _ (by decide) 1 (by decide)⟩
    · obtain rfl := Option.some.inj (show opsX9[2]? = some o from ho)
      exact og_ld3 (hv 1 (by decide) rfl (he ⟨1, .data⟩ (by simp) rfl) : slot a 41 = .pointer (some ⟨h4, 3, none⟩)) ((hM.cell (p := ⟨h4, 3, none⟩) hlt).trans k3) ⟨_, rfl, rfl, Below.refl _ _, hM, hNs 42 _ (by decide) 2 (by decide)⟩
    · obtain rfl := Option.some.inj (show opsX9[3]? = some o from ho)
      exact og_neg hx (hv 2 (by decide) rfl (he ⟨2, .data⟩ (by simp) rfl) : slot a 42 = .int .i64 x) ⟨_, rfl, rfl, Below.refl _ _, hM, hNs 43 _ (by decide) 3 (by decide)⟩
    · obtain rfl := Option.some.inj (show opsX9[4]? = some o from ho)
      refine og_pow (hv 3 (by decide) rfl (he ⟨3, .data⟩ (by simp) rfl) : slot a 43 = .int .i64 (-x)) ((c11 w).mono ?_)
      rintro e w' ⟨v, rfl, hSv, hb⟩
      exact ⟨v, rfl, _, rfl, hSv, hb, bnx hM hb, hNs 44 _ (by decide) 4 (by decide)⟩
    · obtain rfl := Option.some.inj (show opsX9[5]? = some o from ho)
      refine og_times rfl rfl ((c10 w _ _ (hv 0 (by decide) rfl (he ⟨0, .data⟩ (by simp) rfl)) (hv 4 (by decide) rfl (he ⟨4, .data⟩ (by simp) rfl))).mono ?_)
      rintro e w' ⟨v, rfl, hSv, hb⟩
      exact ⟨v, rfl, _, rfl, hSv, hb, bnx hM hb, hNs 45 _ (by decide) 5 (by decide)⟩
    · obtain rfl := Option.some.inj (show opsX9[6]? = some o from ho)
      exact og_fad3 f7 ⟨_, rfl, rfl, Below.refl _ _, hM, hNs 46 _ (by decide) 6 (by decide)⟩
    · obtain rfl := Option.some.inj (show opsX9[7]? = some o from ho)
      exact og_ld3 (hv 6 (by decide) rfl (he ⟨6, .data⟩ (by simp) rfl) : slot a 46 = .pointer (some ⟨h4, 3, none⟩)) ((hM.cell (p := ⟨h4, 3, none⟩) hlt).trans k3) ⟨_, rfl, rfl, Below.refl _ _, hM, hNs 47 _ (by decide) 7 (by decide)⟩
    · obtain rfl := Option.some.inj (show opsX9[8]? = some o from ho)
      exact og_as rfl ⟨_, rfl, hv 5 (by decide) rfl (he ⟨5, .data⟩ (by simp) rfl), Below.refl _ _, hM, fun h => absurd (Or.inr rfl) h⟩
  · intro L a w hL hM hsz hdf hF hv
    have z0 : NT M X (slot a 9) w := hv 8 (by decide) rfl
    have z1 : slot a 47 = .int .i64 x := hv 7 (by decide) rfl
    refine BigFrame.wpList_want rfl fun K hK => og_as z1 (hK _ _ ?_)
    clear K hK
    refine hQ _ _ (slot a 9) ?_ (slot_put (by omega)) z0 (by simp [Act.put, hsz]) hdf (fun t ht => ?_) hM.1
    · rw [slot_put_ne (by decide)]
    · rw [slot_put_ne (show 10 ≠ t from ht 9 (by decide))]
      exact hF t fun i hi => by
        have := ht i (by omega)
        have hor : i = 0 ∨ i = 1 ∨ i = 2 ∨ i = 3 ∨ i = 4 ∨ i = 5 ∨ i = 6 ∨ i = 7 ∨ i = 8 := by omega
        rcases hor with rfl | rfl | rfl | rfl | rfl | rfl | rfl | rfl | rfl <;> exact this
theorem by_rep' {l : List UInt8} {z i : Nat} (h1 : l.length ≤ i) (h2 : i < l.length + z) : by_ (l ++ List.replicate z 48) i = 48 := by
  unfold by_
  rw [dif_pos (by simp; omega)]
  rw [List.getElem_append_right h1, List.getElem_replicate]
  rfl
theorem by_snoc' {l : List UInt8} {c : UInt8} : by_ (l ++ [c]) l.length = (c.toNat : Int) := by
  unfold by_
  rw [dif_pos (by simp)]
  simp
section
variable (n : Int) (V : Nat) (c : Int) (s g : Bool) (x : Int) (k : Nat) (w : World)
set_option maxHeartbeats 2000000 in
theorem x10_e (E : Int) (hE : (E != 0) = true) (c6 : ∀ W, Calls Tryz.prog 27 #[.int .i64 n, A4 V] W fun r w' => r = .returned (.tuple #[DV c s g x k, .int .i64 E]) ∧ Below W.heap.size W w') :
    Calls Tryz.prog 12 #[.int .i64 n, A4 V] w fun r w' => r = .returned (.tuple #[.string (B []), .int .i64 0, .int .i64 E]) ∧ Below w.heap.size w w' := by
  have hn0 : B [] = ⟨#[]⟩ := rfl
  have hsm := cell_set_map
  unfold DV A4 at *
  go_enter Tryz.func12, Tryz.ntmps12
  go_wp2_with (go_at_call 27; refine (c6 _).mono ?_; rintro r w1 ⟨rfl, hb1⟩; obtain ⟨hc1, hf1⟩ := bcell hb1; have hz1_0 : w.heap.size < w1.heap.size := lt_below hb1 ltg; have hl1_0 := Nat.le_of_lt hz1_0; have hA1 := bnext (w0 := w) bgo hb1; have hs1 := hA1.size; clear hb1)
  exact bodyPost_ret (v := .tuple #[.string ⟨#[]⟩, .int .i64 0, .int .i64 E]) (by simp only [results, Tryz.results12]; go_simp) rfl ⟨rfl, bgo⟩
variable (c6 : ∀ W, Calls Tryz.prog 27 #[.int .i64 n, A4 V] W fun r w' => r = .returned (.tuple #[DV c s g x k, .int .i64 0]) ∧ Below W.heap.size W w')
include c6
set_option maxHeartbeats 2000000 in
theorem x10_c (hc : (c != 1) = true) :
    Calls Tryz.prog 12 #[.int .i64 n, A4 V] w fun r w' => r = .returned (.tuple #[.string (B []), .int .i64 0, .int .i64 6]) ∧ Below w.heap.size w w' := by
  have hn0 : B [] = ⟨#[]⟩ := rfl
  have hsm := cell_set_map
  unfold DV A4 at *
  go_enter Tryz.func12, Tryz.ntmps12
  go_wp2_with (go_at_call 27; refine (c6 _).mono ?_; rintro r w1 ⟨rfl, hb1⟩; obtain ⟨hc1, hf1⟩ := bcell hb1; have hz1_0 : w.heap.size < w1.heap.size := lt_below hb1 ltg; have hl1_0 := Nat.le_of_lt hz1_0; have hA1 := bnext (w0 := w) bgo hb1; have hs1 := hA1.size; clear hb1)
  exact bodyPost_ret (v := .tuple #[.string ⟨#[]⟩, .int .i64 0, .int .i64 6]) (by simp only [results, Tryz.results12]; go_simp) rfl ⟨rfl, bgo⟩
variable (hc : c = 1)
include hc
set_option maxHeartbeats 2000000 in
theorem x10_0 (h0 : k = 0) :
    Calls Tryz.prog 12 #[.int .i64 n, A4 V] w fun r w' => r = .returned (.tuple #[.string (B []), .int .i64 0, .int .i64 6]) ∧ Below w.heap.size w w' := by
  subst hc
  have hn0 : B [] = ⟨#[]⟩ := rfl
  have h24 := eq24 (W4 k 0) (W4 k 1) (W4 k 2) (W4 k 3) 0 0 0 0
  rw [W4_none (by rw [h0]; decide), decide_eq_true h0] at h24
  clear h0
  have hsm := cell_set_map
  unfold DV A4 at *
  go_enter Tryz.func12, Tryz.ntmps12
  go_wp2_with (go_at_call 27; refine (c6 _).mono ?_; rintro r w1 ⟨rfl, hb1⟩; obtain ⟨hc1, hf1⟩ := bcell hb1; have hz1_0 : w.heap.size < w1.heap.size := lt_below hb1 ltg; have hl1_0 := Nat.le_of_lt hz1_0; have hA1 := bnext (w0 := w) bgo hb1; have hs1 := hA1.size; clear hb1)
  exact bodyPost_ret (v := .tuple #[.string ⟨#[]⟩, .int .i64 0, .int .i64 6]) (by simp only [results, Tryz.results12]; go_simp) rfl ⟨rfl, bgo⟩
variable (h0 : k ≠ 0) (hk : k < 2 ^ 256) (hxb : -1000000 ≤ x ∧ x ≤ 1000000) (M X z N : Nat) (L : Nat → ByteArray) (cl : Int) (hl : cl ≠ 48) (hlb : 0 ≤ cl ∧ cl ≤ 255) (hlen : N ≤ 100000) (hzl : z ≤ 100000)
  (key : ∀ j, j ≤ z → (L j).size = N + 1 + j) (hex : ∀ j, j < z → (L (j + 1)).extract 0 (N + 1 + j) = L j)
  (hi0 : IDX (L 0) N cl) (hi1 : ∀ j, j < z → IDX (L (j + 1)) (N + 1 + j) 48)
  (c8 : ∀ W, Calls Tryz.prog 36 #[A4 k] W fun r w' => ∃ v, r = .returned v ∧ NT 4 k v w' ∧ Below W.heap.size W w')
  (c12 : ∀ W u, NT M X u W → Calls Tryz.prog 31 #[u] W fun r w' => r = .returned (.string (L z)) ∧ Below W.heap.size W w')
include h0 hk hxb hl hlb hlen hzl key hex hi0 hi1 c8 c12
set_option maxHeartbeats 4000000 in
theorem x10_p (hx : 0 ≤ x) (c9 : ∀ W v, NT 4 k v W → Calls Tryz.prog 37 #[v, .int .i64 x] W fun r w' => ∃ u, r = .returned u ∧ NT M X u w' ∧ Below W.heap.size W w') :
    Calls Tryz.prog 12 #[.int .i64 n, A4 V] w fun r w' => r = .returned (.tuple #[.string (L 0), .int .i64 (z : Int), .int .i64 0]) ∧ Below w.heap.size w w' := by
  subst hc
  have h24 := eq24 (W4 k 0) (W4 k 1) (W4 k 2) (W4 k 3) 0 0 0 0
  rw [W4_none hk, decide_eq_false h0] at h24
  clear h0
  have hsm := cell_set_map
  unfold DV A4 at *
  go_enter Tryz.func12, Tryz.ntmps12
  go_wp2_with (first
    | (go_at_call 27; refine (c6 _).mono ?_; rintro r w2 ⟨rfl, hb2⟩; obtain ⟨hc2, hf2⟩ := bcell hb2; have hz2_0 : w.heap.size < w2.heap.size := lt_below hb2 ltg; have hl2_0 := Nat.le_of_lt hz2_0; have hA2 := bnext (w0 := w) bgo hb2; have hs2 := hA2.size; clear hb2)
    | (go_at_call 36; refine (c8 _).mono ?_; rintro r w3 ⟨v3, rfl, hv3, hb3⟩; obtain ⟨hc3, hf3⟩ := bcell hb3; have hz3_0 : w.heap.size < w3.heap.size := lt_below hb3 ltg; have hl3_0 := Nat.le_of_lt hz3_0; have hz3_1 : w2.heap.size < w3.heap.size := lt_below hb3 ltg; have hl3_1 := Nat.le_of_lt hz3_1; have hA3 := bnext (w0 := w) bgo hb3; have hs3 := hA3.size; clear hb3)
    | (go_at_call 37; refine (c9 _ _ hv3).mono ?_; rintro r w4 ⟨v4, rfl, hv4, hb4⟩; obtain ⟨hc4, hf4⟩ := bcell hb4; have hz4_0 : w.heap.size < w4.heap.size := lt_below hb4 ltg; have hl4_0 := Nat.le_of_lt hz4_0; have hz4_1 : w2.heap.size < w4.heap.size := lt_below hb4 ltg; have hl4_1 := Nat.le_of_lt hz4_1; have hA4 := bnext (w0 := w) bgo hb4; have hs4 := hA4.size; clear hb4)
    | (go_at_call 31; refine (c12 _ _ hv4).mono ?_; rintro r w5 ⟨rfl, hb5⟩; obtain ⟨hc5, hf5⟩ := bcell hb5; have hz5_0 : w.heap.size < w5.heap.size := lt_below hb5 ltg; have hl5_0 := Nat.le_of_lt hz5_0; have hz5_1 : w2.heap.size < w5.heap.size := lt_below hb5 ltg; have hl5_1 := Nat.le_of_lt hz5_1; have hA5 := bnext (w0 := w) bgo hb5; have hs5 := hA5.size; clear hb5))
  have KEY : Hid (∀ j, j ≤ z → (L j).size = N + 1 + j) := key
  have HEX : Hid (∀ j, j < z → (L (j + 1)).extract 0 (N + 1 + j) = L j) := hex
  have HI1 : Hid (∀ j, j < z → IDX (L (j + 1)) (N + 1 + j) 48) := hi1
  have HI0 : Hid (IDX (L 0) N cl) := hi0
  clear key hex hi1 hi0
  go_loop [10, 11] (fun t10 t11 => ∃ j : Nat, j ≤ z ∧ t10 = .int .i64 ((z : Int) - j) ∧ t11 = .string (L j)) (fun t10 _ => ((z : Int) - intOf t10).toNat)
  case atStart => exact ⟨z, Nat.le_refl _, by congr 1; omega, rfl⟩
  case round =>
    obtain ⟨j, hj, rfl, rfl⟩ := hrel
    have hsz := KEY.out j hj
    cases j with
    | zero =>
      have hlt : N < (L 0).size := by omega
      have hi := HI0.out hlt
      have hl2 : (cl == 48) = false := by rw [beq_eq_false_iff_ne]; exact hl
      go_wp2
      exact bodyPost_ret (v := .tuple #[.string (L 0), .int .i64 (z : Int), .int .i64 0]) (by simp only [results, Tryz.results12]; go_simp) rfl ⟨rfl, bgo⟩
    | succ j =>
      have hlt : N + 1 + j < (L (j + 1)).size := by omega
      have hi := HI1.out j (by omega) hlt
      have hxt := HEX.out j (by omega)
      have hsz' : (L (j + 1)).size = N + 1 + j + 1 := by omega
      clear hsz
      go_wp2
      go_round
      case rel => exact ⟨j, by omega, by congr 1; omega, by rw [← hxt]⟩
      case measure => simp [intOf]; omega
set_option maxHeartbeats 4000000 in
theorem x10_n (hx : ¬ 0 ≤ x) (P5 F : Nat) (c11 : ∀ W, Calls Tryz.prog 38 #[.int .u64 5, .int .i64 (-x)] W fun e w' => ∃ v, e = .returned v ∧ NV P5 F v w' ∧ Below W.heap.size W w')
    (c10 : ∀ W v p, NT 4 k v W → NV P5 F p W → Calls Tryz.prog 17 #[v, p] W fun e w' => ∃ u, e = .returned u ∧ NT M X u w' ∧ Below W.heap.size W w') :
    Calls Tryz.prog 12 #[.int .i64 n, A4 V] w fun r w' => r = .returned (.tuple #[.string (L 0), .int .i64 (x + (z : Int)), .int .i64 0]) ∧ Below w.heap.size w w' := by
  subst hc
  have h24 := eq24 (W4 k 0) (W4 k 1) (W4 k 2) (W4 k 3) 0 0 0 0
  rw [W4_none hk, decide_eq_false h0] at h24
  clear h0
  have hsm := cell_set_map
  unfold DV A4 at *
  go_enter Tryz.func12, Tryz.ntmps12
  go_wp2_with (first
    | (go_at_call 27; refine (c6 _).mono ?_; rintro r w2 ⟨rfl, hb2⟩; obtain ⟨hc2, hf2⟩ := bcell hb2; have hz2_0 : w.heap.size < w2.heap.size := lt_below hb2 ltg; have hl2_0 := Nat.le_of_lt hz2_0; have hA2 := bnext (w0 := w) bgo hb2; have hs2 := hA2.size; clear hb2)
    | (go_at_call 36; refine (c8 _).mono ?_; rintro r w3 ⟨v3, rfl, hv3, hb3⟩; obtain ⟨hc3, hf3⟩ := bcell hb3; have hz3_0 : w.heap.size < w3.heap.size := lt_below hb3 ltg; have hl3_0 := Nat.le_of_lt hz3_0; have hz3_1 : w2.heap.size < w3.heap.size := lt_below hb3 ltg; have hl3_1 := Nat.le_of_lt hz3_1; have hA3 := bnext (w0 := w) bgo hb3; have hs3 := hA3.size; clear hb3))
  refine regX9 (h4 := w2.heap.size) (k := k) rfl rfl rfl hv3 hxb (by assumption) (by go_simp) c11 c10 ?_
  intro a' w4 v4 h9 h10 hv4 hsz hdf hF hb4
  have ha := act_of slotsAX9 10 rfl hsz hdf hF
  rw [ha]
  simp only [slotsAX9, List.foldl_cons, List.foldl_nil, Act.put, List.setIfInBounds_toArray, List.set_cons_succ, List.set_cons_zero, h9, h10]
  generalize slot a' 40 = s40
  generalize slot a' 41 = s41
  generalize slot a' 42 = s42
  generalize slot a' 43 = s43
  generalize slot a' 44 = s44
  generalize slot a' 45 = s45
  generalize slot a' 46 = s46
  generalize slot a' 47 = s47
  clear ha h9 h10 hsz hdf hF
  obtain ⟨hc4, hf4⟩ := bcell hb4; have hz4_0 : w.heap.size < w4.heap.size := lt_below hb4 ltg; have hl4_0 := Nat.le_of_lt hz4_0; have hz4_1 : w2.heap.size < w4.heap.size := lt_below hb4 ltg; have hl4_1 := Nat.le_of_lt hz4_1; have hA4 := bnext (w0 := w) bgo hb4; have hs4 := hA4.size; clear hb4
  go_wp2_with (go_at_call 31; refine (c12 _ _ hv4).mono ?_; rintro r w5 ⟨rfl, hb5⟩; obtain ⟨hc5, hf5⟩ := bcell hb5; have hz5_0 : w.heap.size < w5.heap.size := lt_below hb5 ltg; have hl5_0 := Nat.le_of_lt hz5_0; have hz5_1 : w2.heap.size < w5.heap.size := lt_below hb5 ltg; have hl5_1 := Nat.le_of_lt hz5_1; have hA5 := bnext (w0 := w) bgo hb5; have hs5 := hA5.size; clear hb5)
  have KEY : Hid (∀ j, j ≤ z → (L j).size = N + 1 + j) := key
  have HEX : Hid (∀ j, j < z → (L (j + 1)).extract 0 (N + 1 + j) = L j) := hex
  have HI1 : Hid (∀ j, j < z → IDX (L (j + 1)) (N + 1 + j) 48) := hi1
  have HI0 : Hid (IDX (L 0) N cl) := hi0
  clear key hex hi1 hi0
  go_loop [10, 11] (fun t10 t11 => ∃ j : Nat, j ≤ z ∧ t10 = .int .i64 (x + ((z : Int) - j)) ∧ t11 = .string (L j)) (fun t10 _ => ((x + (z : Int)) - intOf t10).toNat)
  case atStart => exact ⟨z, Nat.le_refl _, by congr 1; omega, rfl⟩
  case round =>
    obtain ⟨j, hj, rfl, rfl⟩ := hrel
    have hsz := KEY.out j hj
    cases j with
    | zero =>
      have hlt : N < (L 0).size := by omega
      have hi := HI0.out hlt
      have hl2 : (cl == 48) = false := by rw [beq_eq_false_iff_ne]; exact hl
      go_wp2
      exact bodyPost_ret (v := .tuple #[.string (L 0), .int .i64 (x + (z : Int)), .int .i64 0]) (by simp only [results, Tryz.results12]; go_simp) rfl ⟨rfl, bgo⟩
    | succ j =>
      have hlt : N + 1 + j < (L (j + 1)).size := by omega
      have hi := HI1.out j (by omega) hlt
      have hxt := HEX.out j (by omega)
      have hsz' : (L (j + 1)).size = N + 1 + j + 1 := by omega
      clear hsz
      go_wp2
      go_round
      case rel => exact ⟨j, by omega, by congr 1; omega, by rw [← hxt]⟩
      case measure => simp [intOf]; omega
end
end Go.Proofs.YtogfiipmebgnjaaGreatDoor

namespace Go.Proofs.YtogfiipmebgnjaaGreatDoor
open Go.RowKit

/-- the document's Decimal, of any number that is not too long -/
theorem dec_nW {K X : Nat} {v : Value} {w : World} (hK : K < 100000) (hX : bl X ≤ 128000) (h : NV K X v w) : Calls Tryz.prog 31 #[v] w fun r w' => r = .returned (.string (B (dcW X))) ∧ Below w.heap.size w w' := by
  obtain ⟨g, n, c, z, rfl, hn, hN, hv⟩ := h
  have hs : sizeL z n ≤ 2000 := (size_bl hN.2.2.1 hv).2 hX
  unfold dcW
  by_cases h0 : X = 0
  · rw [if_pos h0]
    subst h0
    have hz : sizeL z n = 0 := by
      rcases Nat.eq_zero_or_pos (sizeL z n) with h | h
      · exact h
      · have := val_pos hN.2.2.1 _ h (sizeL_sizeL z n)
        rw [val_bare n, hv] at this
        omega
    exact rdec_zero _ n c z w (by omega) hN hz
  · rw [if_neg h0]
    have hX0 : (0 : Int) < X := by omega
    have hL : (X : Int) < 10 ^ bl X := by
      have h1 := (bl_bd h0).2.1
      have h2 := Nat.pow_le_pow_left (show 2 ≤ 10 by decide) (bl X)
      have h3 : X < 10 ^ bl X := by omega
      exact_mod_cast h3
    have hz : 0 < sizeL z n := by
      rcases Nat.eq_zero_or_pos (sizeL z n) with h | h
      · have := val_bare (x := z) n
        rw [h] at this
        rw [hv] at this
        have e : val z 0 = 0 := rfl
        omega
      · exact h
    refine (rdec_any _ n c z w (by omega) hN hs hz).mono fun e w' ⟨L, hL', he, hB⟩ => ⟨?_, hB⟩
    rw [hv] at hL' he
    rw [he, decL_rev hX0 hL', decL_more (Int.le_of_lt hX0) hL' hL, ← decL_rev hX0 hL]
    show _ = Ending.returned (.string (B (dcD X (bl X))))
    unfold dcD
    rw [B_of]
attribute [local irreducible] W4 NT NV
section
variable (n d cnt : Int) (V : Nat) (c : Int) (s g : Bool) (x : Int) (k : Nat) (w : World)
set_option maxHeartbeats 2000000 in
theorem w10_d (c5 : ∀ W, Calls Tryz.prog 21 #[.int .i64 d] W fun r w' => r = .returned (.bool false) ∧ W = w') :
    Calls Tryz.prog 10 #[.int .i64 n, .int .i64 d, .int .i64 cnt, A4 V] w fun r w' => r = .returned (.tuple #[.string (B []), .bool false, .int .i64 1]) ∧ Below w.heap.size w w' := by
  have hn0 : B [] = ⟨#[]⟩ := rfl
  unfold A4 at *
  go_enter Tryz.func10, Tryz.ntmps10
  go_wp2_with (go_at_call 21; refine (c5 _).mono ?_; rintro r w1 ⟨rfl, rfl⟩)
  exact bodyPost_ret (v := .tuple #[.string ⟨#[]⟩, .bool false, .int .i64 1]) (by simp only [results, Tryz.results10]; go_simp) rfl ⟨rfl, bgo⟩
variable (c5 : ∀ W, Calls Tryz.prog 21 #[.int .i64 d] W fun r w' => r = .returned (.bool true) ∧ W = w')
include c5
set_option maxHeartbeats 2000000 in
theorem w10_e (E : Int) (hE : (E != 0) = true) (c6 : ∀ W, Calls Tryz.prog 27 #[.int .i64 n, A4 V] W fun r w' => r = .returned (.tuple #[DV c s g x k, .int .i64 E]) ∧ Below W.heap.size W w') :
    Calls Tryz.prog 10 #[.int .i64 n, .int .i64 d, .int .i64 cnt, A4 V] w fun r w' => r = .returned (.tuple #[.string (B []), .bool false, .int .i64 E]) ∧ Below w.heap.size w w' := by
  have hn0 : B [] = ⟨#[]⟩ := rfl
  have hsm := cell_set_map
  unfold DV A4 at *
  go_enter Tryz.func10, Tryz.ntmps10
  go_wp2_with (first
    | (go_at_call 21; refine (c5 _).mono ?_; rintro r w1 ⟨rfl, rfl⟩)
    | (go_at_call 27; refine (c6 _).mono ?_; rintro r w1 ⟨rfl, hb1⟩; obtain ⟨hc1, hf1⟩ := bcell hb1; have hz1_0 : w.heap.size < w1.heap.size := lt_below hb1 ltg; have hl1_0 := Nat.le_of_lt hz1_0; have hA1 := bnext (w0 := w) bgo hb1; have hs1 := hA1.size; clear hb1))
  exact bodyPost_ret (v := .tuple #[.string ⟨#[]⟩, .bool false, .int .i64 E]) (by simp only [results, Tryz.results10]; go_simp) rfl ⟨rfl, bgo⟩
variable (c6 : ∀ W, Calls Tryz.prog 27 #[.int .i64 n, A4 V] W fun r w' => r = .returned (.tuple #[DV c s g x k, .int .i64 0]) ∧ Below W.heap.size W w')
include c6
set_option maxHeartbeats 2000000 in
theorem w10_r (hc : cnt < 1 ∨ 800 < cnt) :
    Calls Tryz.prog 10 #[.int .i64 n, .int .i64 d, .int .i64 cnt, A4 V] w fun r w' => r = .returned (.tuple #[.string (B []), .bool false, .int .i64 3]) ∧ Below w.heap.size w w' := by
  have hn0 : B [] = ⟨#[]⟩ := rfl
  have hsm := cell_set_map
  unfold DV A4 at *
  rcases hc with hc | hc
  · go_enter Tryz.func10, Tryz.ntmps10
    go_wp2_with (first
      | (go_at_call 21; refine (c5 _).mono ?_; rintro r w1 ⟨rfl, rfl⟩)
      | (go_at_call 27; refine (c6 _).mono ?_; rintro r w1 ⟨rfl, hb1⟩; obtain ⟨hc1, hf1⟩ := bcell hb1; have hz1_0 : w.heap.size < w1.heap.size := lt_below hb1 ltg; have hl1_0 := Nat.le_of_lt hz1_0; have hA1 := bnext (w0 := w) bgo hb1; have hs1 := hA1.size; clear hb1))
    exact bodyPost_ret (v := .tuple #[.string ⟨#[]⟩, .bool false, .int .i64 3]) (by simp only [results, Tryz.results10]; go_simp) rfl ⟨rfl, bgo⟩
  · have hc1 : ¬ cnt < 1 := by omega
    go_enter Tryz.func10, Tryz.ntmps10
    go_wp2_with (first
      | (go_at_call 21; refine (c5 _).mono ?_; rintro r w1 ⟨rfl, rfl⟩)
      | (go_at_call 27; refine (c6 _).mono ?_; rintro r w1 ⟨rfl, hb1⟩; obtain ⟨hc1, hf1⟩ := bcell hb1; have hz1_0 : w.heap.size < w1.heap.size := lt_below hb1 ltg; have hl1_0 := Nat.le_of_lt hz1_0; have hA1 := bnext (w0 := w) bgo hb1; have hs1 := hA1.size; clear hb1))
    exact bodyPost_ret (v := .tuple #[.string ⟨#[]⟩, .bool false, .int .i64 3]) (by simp only [results, Tryz.results10]; go_simp) rfl ⟨rfl, bgo⟩
variable (hc1 : 1 ≤ cnt) (hc8 : cnt ≤ 800)
include hc1 hc8
set_option maxHeartbeats 2000000 in
theorem w10_c (hc : (c != 1) = true) :
    Calls Tryz.prog 10 #[.int .i64 n, .int .i64 d, .int .i64 cnt, A4 V] w fun r w' => r = .returned (.tuple #[.string (B []), .bool false, .int .i64 6]) ∧ Below w.heap.size w w' := by
  have hn0 : B [] = ⟨#[]⟩ := rfl
  have hsm := cell_set_map
  unfold DV A4 at *
  go_enter Tryz.func10, Tryz.ntmps10
  go_wp2_with (first
    | (go_at_call 21; refine (c5 _).mono ?_; rintro r w1 ⟨rfl, rfl⟩)
    | (go_at_call 27; refine (c6 _).mono ?_; rintro r w1 ⟨rfl, hb1⟩; obtain ⟨hc1, hf1⟩ := bcell hb1; have hz1_0 : w.heap.size < w1.heap.size := lt_below hb1 ltg; have hl1_0 := Nat.le_of_lt hz1_0; have hA1 := bnext (w0 := w) bgo hb1; have hs1 := hA1.size; clear hb1))
  exact bodyPost_ret (v := .tuple #[.string ⟨#[]⟩, .bool false, .int .i64 6]) (by simp only [results, Tryz.results10]; go_simp) rfl ⟨rfl, bgo⟩
variable (hc : c = 1)
include hc
set_option maxHeartbeats 2000000 in
theorem w10_0 (h0 : k = 0) (hT10 : Tb10 w) (Z T : List UInt8) (c8 : ∀ W, Calls Tryz.prog 28 #[.int .i64 cnt] W fun r w' => r = .returned (.string (B Z)) ∧ Below W.heap.size W w')
    (c7 : ∀ W, Below w.heap.size w W → Calls Tryz.prog 22 #[.bool s, .string (B Z), .int .i64 (1 - cnt)] W fun r w' => r = .returned (.string (B T)) ∧ Below W.heap.size W w') :
    Calls Tryz.prog 10 #[.int .i64 n, .int .i64 d, .int .i64 cnt, A4 V] w fun r w' => r = .returned (.tuple #[.string (B T), .bool false, .int .i64 0]) ∧ Below w.heap.size w w' := by
  subst hc
  have h24 := eq24 (W4 k 0) (W4 k 1) (W4 k 2) (W4 k 3) 0 0 0 0
  rw [W4_none (by rw [h0]; decide), decide_eq_true h0] at h24
  clear h0
  have hsm := cell_set_map
  unfold DV A4 at *
  go_enter Tryz.func10, Tryz.ntmps10
  go_wp2_with (first
    | (go_at_call 21; refine (c5 _).mono ?_; rintro r w1 ⟨rfl, rfl⟩)
    | (go_at_call 27; refine (c6 _).mono ?_; rintro r w1 ⟨rfl, hb1⟩; obtain ⟨hc1, hf1⟩ := bcell hb1; have hz1_0 : w.heap.size < w1.heap.size := lt_below hb1 ltg; have hl1_0 := Nat.le_of_lt hz1_0; have hA1 := bnext (w0 := w) bgo hb1; have hs1 := hA1.size; clear hb1))
  refine wp_tail 7 (by kernel_rfl) (by kernel_rfl) (by kernel_rfl) (fun _ _ d _ _ h => by cases d <;> exact h) fun hne hcell => ?_
  simp only [List.take_succ_cons, List.take_zero, List.drop_succ_cons, List.drop_zero]
  repeat go_big_quiet_step (fail)
  go_big_quiet_step ((go_at_call 28; exact calls_wd _ bk_next (c8 _)))
  repeat go_big_quiet_step (fail)
  go_big_quiet_step ((go_at_call 22; exact calls_wd _ bk_next (c7 _ (bnext bgo (Wd.h _)))))
  refine wpQuiet_nil fun w2 hb2 => ?_
  obtain ⟨hc2, hf2⟩ := bcell hb2; have hz2_0 : w.heap.size < w2.heap.size := lt_below hb2 ltg; have hl2_0 := Nat.le_of_lt hz2_0; have hz2_1 : w1.heap.size < w2.heap.size := lt_below hb2 ltg; have hl2_1 := Nat.le_of_lt hz2_1; have hA2 := bnext (w0 := w) bgo hb2; have hs2 := hA2.size; clear hb2
  go_wp2
  exact bodyPost_ret (v := .tuple #[.string (B T), .bool false, .int .i64 0]) (by simp only [results, Tryz.results10]; go_simp) rfl ⟨rfl, bgo⟩
variable (h0 : k ≠ 0) (hk : k < 2 ^ 256) (N M A Z C KC : Nat) (E : Int) (ex : Bool) (D T : List UInt8) (hE : -6000 ≤ E ∧ E ≤ 6000)
  (c9 : ∀ W, Calls Tryz.prog 16 #[DV 1 s g x k, .int .u64 2] W fun r w' => ∃ a b, r = .returned (.tuple #[a, b]) ∧ NT 900 N a w' ∧ NT 900 M b w' ∧ Below W.heap.size W w')
  (c10 : ∀ W a b, NT 900 N a W → NT 900 M b W → Calls Tryz.prog 29 #[a, b] W fun r w' => r = .returned (.int .i64 E) ∧ Below W.heap.size W w')
  (c11 : ∀ W a b, NT 900 N a W → NT 900 M b W → Calls Tryz.prog 20 #[a, b, .int .u64 10, .int .i64 (-(E - cnt + 1))] W fun r w' => ∃ p q, r = .returned (.tuple #[p, q]) ∧ NT 900 A p w' ∧ NT 900 Z q w' ∧ Below W.heap.size W w')
  (c12 : ∀ W p q, NT 900 A p W → NT 900 Z q W → Calls Tryz.prog 30 #[.int .i64 d, .bool s, p, q] W fun r w' => ∃ v, r = .returned (.tuple #[v, .bool ex]) ∧ NV KC C v w' ∧ Below W.heap.size W w')
  (c13 : ∀ W v, NV KC C v W → Calls Tryz.prog 31 #[v] W fun r w' => r = .returned (.string (B D)) ∧ Below W.heap.size W w')
include h0 hk hE c9 c10 c11 c12 c13
set_option maxHeartbeats 4000000 in
theorem w10_k (hD : ((B D).size : Int) ≤ cnt) (c7 : ∀ W, Below w.heap.size w W → Calls Tryz.prog 22 #[.bool s, .string (B D), .int .i64 (E - cnt + 1)] W fun r w' => r = .returned (.string (B T)) ∧ Below W.heap.size W w') :
    Calls Tryz.prog 10 #[.int .i64 n, .int .i64 d, .int .i64 cnt, A4 V] w fun r w' => r = .returned (.tuple #[.string (B T), .bool (!ex), .int .i64 0]) ∧ Below w.heap.size w w' := by
  subst hc
  have h24 := eq24 (W4 k 0) (W4 k 1) (W4 k 2) (W4 k 3) 0 0 0 0
  rw [W4_none hk, decide_eq_false h0] at h24
  clear h0
  have hsm := cell_set_map
  unfold DV A4 at *
  go_enter Tryz.func10, Tryz.ntmps10
  go_wp2_with (first
    | (go_at_call 21; refine (c5 _).mono ?_; rintro r w1 ⟨rfl, rfl⟩)
    | (go_at_call 27; refine (c6 _).mono ?_; rintro r w1 ⟨rfl, hb1⟩; obtain ⟨hc1, hf1⟩ := bcell hb1; have hz1_0 : w.heap.size < w1.heap.size := lt_below hb1 ltg; have hl1_0 := Nat.le_of_lt hz1_0; have hA1 := bnext (w0 := w) bgo hb1; have hs1 := hA1.size; clear hb1)
    | (go_at_call 16; refine (c9 _).mono ?_; rintro r w2 ⟨va, vb, rfl, ha2, hv2, hb2⟩; obtain ⟨hc2, hf2⟩ := bcell hb2; have hz2_0 : w.heap.size < w2.heap.size := lt_below hb2 ltg; have hl2_0 := Nat.le_of_lt hz2_0; have hz2_1 : w1.heap.size < w2.heap.size := lt_below hb2 ltg; have hl2_1 := Nat.le_of_lt hz2_1; have hA2 := bnext (w0 := w) bgo hb2; have hs2 := hA2.size; clear hb2)
    | (go_at_call 29; refine (c10 _ _ _ ha2 hv2).mono ?_; rintro r w3 ⟨rfl, hb3⟩; have ha3 := ha2.next hb3; have hv3 := hv2.next hb3; obtain ⟨hc3, hf3⟩ := bcell hb3; have hz3_0 : w.heap.size < w3.heap.size := lt_below hb3 ltg; have hl3_0 := Nat.le_of_lt hz3_0; have hz3_1 : w1.heap.size < w3.heap.size := lt_below hb3 ltg; have hl3_1 := Nat.le_of_lt hz3_1; have hA3 := bnext (w0 := w) bgo hb3; have hs3 := hA3.size; clear hb3)
    | (go_at_call 20; refine (c11 _ _ _ ha3 hv3).mono ?_; rintro r w4 ⟨vp, vq, rfl, hp4, hq4, hb4⟩; obtain ⟨hc4, hf4⟩ := bcell hb4; have hz4_0 : w.heap.size < w4.heap.size := lt_below hb4 ltg; have hl4_0 := Nat.le_of_lt hz4_0; have hz4_1 : w1.heap.size < w4.heap.size := lt_below hb4 ltg; have hl4_1 := Nat.le_of_lt hz4_1; have hA4 := bnext (w0 := w) bgo hb4; have hs4 := hA4.size; clear hb4)
    | (go_at_call 30; refine (c12 _ _ _ hp4 hq4).mono ?_; rintro r w5 ⟨v5, rfl, hv5, hb5⟩; obtain ⟨hc5, hf5⟩ := bcell hb5; have hz5_0 : w.heap.size < w5.heap.size := lt_below hb5 ltg; have hl5_0 := Nat.le_of_lt hz5_0; have hz5_1 : w1.heap.size < w5.heap.size := lt_below hb5 ltg; have hl5_1 := Nat.le_of_lt hz5_1; have hA5 := bnext (w0 := w) bgo hb5; have hs5 := hA5.size; clear hb5)
    | (go_at_call 31; refine (c13 _ _ hv5).mono ?_; rintro r w6 ⟨rfl, hb6⟩; obtain ⟨hc6, hf6⟩ := bcell hb6; have hz6_0 : w.heap.size < w6.heap.size := lt_below hb6 ltg; have hl6_0 := Nat.le_of_lt hz6_0; have hz6_1 : w1.heap.size < w6.heap.size := lt_below hb6 ltg; have hl6_1 := Nat.le_of_lt hz6_1; have hA6 := bnext (w0 := w) bgo hb6; have hs6 := hA6.size; clear hb6)
    | (go_at_call 22; refine (c7 _ bgo).mono ?_; rintro r w7 ⟨rfl, hb7⟩; obtain ⟨hc7, hf7⟩ := bcell hb7; have hz7_0 : w.heap.size < w7.heap.size := lt_below hb7 ltg; have hl7_0 := Nat.le_of_lt hz7_0; have hz7_1 : w1.heap.size < w7.heap.size := lt_below hb7 ltg; have hl7_1 := Nat.le_of_lt hz7_1; have hA7 := bnext (w0 := w) bgo hb7; have hs7 := hA7.size; clear hb7))
  exact bodyPost_ret (v := .tuple #[.string (B T), .bool (!ex), .int .i64 0]) (by simp only [results, Tryz.results10]; go_simp) rfl ⟨rfl, bgo⟩
set_option maxHeartbeats 4000000 in
theorem w10_l (m : Nat) (hm : cnt = (m : Int)) (D' : List UInt8) (hD : cnt < ((B D).size : Int)) (hD' : (B D).extract 0 m = B D') (c7 : ∀ W, Below w.heap.size w W → Calls Tryz.prog 22 #[.bool s, .string (B D'), .int .i64 (E - cnt + 1 + 1)] W fun r w' => r = .returned (.string (B T)) ∧ Below W.heap.size W w') :
    Calls Tryz.prog 10 #[.int .i64 n, .int .i64 d, .int .i64 cnt, A4 V] w fun r w' => r = .returned (.tuple #[.string (B T), .bool (!ex), .int .i64 0]) ∧ Below w.heap.size w w' := by
  subst hc hm
  have h24 := eq24 (W4 k 0) (W4 k 1) (W4 k 2) (W4 k 3) 0 0 0 0
  rw [W4_none hk, decide_eq_false h0] at h24
  clear h0
  have hsm := cell_set_map
  unfold DV A4 at *
  go_enter Tryz.func10, Tryz.ntmps10
  go_wp2_with (first
    | (go_at_call 21; refine (c5 _).mono ?_; rintro r w1 ⟨rfl, rfl⟩)
    | (go_at_call 27; refine (c6 _).mono ?_; rintro r w1 ⟨rfl, hb1⟩; obtain ⟨hc1, hf1⟩ := bcell hb1; have hz1_0 : w.heap.size < w1.heap.size := lt_below hb1 ltg; have hl1_0 := Nat.le_of_lt hz1_0; have hA1 := bnext (w0 := w) bgo hb1; have hs1 := hA1.size; clear hb1)
    | (go_at_call 16; refine (c9 _).mono ?_; rintro r w2 ⟨va, vb, rfl, ha2, hv2, hb2⟩; obtain ⟨hc2, hf2⟩ := bcell hb2; have hz2_0 : w.heap.size < w2.heap.size := lt_below hb2 ltg; have hl2_0 := Nat.le_of_lt hz2_0; have hz2_1 : w1.heap.size < w2.heap.size := lt_below hb2 ltg; have hl2_1 := Nat.le_of_lt hz2_1; have hA2 := bnext (w0 := w) bgo hb2; have hs2 := hA2.size; clear hb2)
    | (go_at_call 29; refine (c10 _ _ _ ha2 hv2).mono ?_; rintro r w3 ⟨rfl, hb3⟩; have ha3 := ha2.next hb3; have hv3 := hv2.next hb3; obtain ⟨hc3, hf3⟩ := bcell hb3; have hz3_0 : w.heap.size < w3.heap.size := lt_below hb3 ltg; have hl3_0 := Nat.le_of_lt hz3_0; have hz3_1 : w1.heap.size < w3.heap.size := lt_below hb3 ltg; have hl3_1 := Nat.le_of_lt hz3_1; have hA3 := bnext (w0 := w) bgo hb3; have hs3 := hA3.size; clear hb3)
    | (go_at_call 20; refine (c11 _ _ _ ha3 hv3).mono ?_; rintro r w4 ⟨vp, vq, rfl, hp4, hq4, hb4⟩; obtain ⟨hc4, hf4⟩ := bcell hb4; have hz4_0 : w.heap.size < w4.heap.size := lt_below hb4 ltg; have hl4_0 := Nat.le_of_lt hz4_0; have hz4_1 : w1.heap.size < w4.heap.size := lt_below hb4 ltg; have hl4_1 := Nat.le_of_lt hz4_1; have hA4 := bnext (w0 := w) bgo hb4; have hs4 := hA4.size; clear hb4)
    | (go_at_call 30; refine (c12 _ _ _ hp4 hq4).mono ?_; rintro r w5 ⟨v5, rfl, hv5, hb5⟩; obtain ⟨hc5, hf5⟩ := bcell hb5; have hz5_0 : w.heap.size < w5.heap.size := lt_below hb5 ltg; have hl5_0 := Nat.le_of_lt hz5_0; have hz5_1 : w1.heap.size < w5.heap.size := lt_below hb5 ltg; have hl5_1 := Nat.le_of_lt hz5_1; have hA5 := bnext (w0 := w) bgo hb5; have hs5 := hA5.size; clear hb5)
    | (go_at_call 31; refine (c13 _ _ hv5).mono ?_; rintro r w6 ⟨rfl, hb6⟩; obtain ⟨hc6, hf6⟩ := bcell hb6; have hz6_0 : w.heap.size < w6.heap.size := lt_below hb6 ltg; have hl6_0 := Nat.le_of_lt hz6_0; have hz6_1 : w1.heap.size < w6.heap.size := lt_below hb6 ltg; have hl6_1 := Nat.le_of_lt hz6_1; have hA6 := bnext (w0 := w) bgo hb6; have hs6 := hA6.size; clear hb6)
    | (go_at_call 22; refine (c7 _ bgo).mono ?_; rintro r w7 ⟨rfl, hb7⟩; obtain ⟨hc7, hf7⟩ := bcell hb7; have hz7_0 : w.heap.size < w7.heap.size := lt_below hb7 ltg; have hl7_0 := Nat.le_of_lt hz7_0; have hz7_1 : w1.heap.size < w7.heap.size := lt_below hb7 ltg; have hl7_1 := Nat.le_of_lt hz7_1; have hA7 := bnext (w0 := w) bgo hb7; have hs7 := hA7.size; clear hb7))
  exact bodyPost_ret (v := .tuple #[.string (B T), .bool (!ex), .int .i64 0]) (by simp only [results, Tryz.results10]; go_simp) rfl ⟨rfl, bgo⟩
end
end Go.Proofs.YtogfiipmebgnjaaGreatDoor

namespace Go.Proofs.YtogfiipmebgnjaaGreatDoor
open Go.RowKit

/-- all digits of k times 2^x, with the noughts at the end, and the last one's exponent -/
def exX (k : Nat) (x : Int) : Nat := if 0 ≤ x then k * 2 ^ x.toNat else k * 5 ^ (-x).toNat
def exA (x : Int) : Int := if 0 ≤ x then 0 else x
theorem ex_val (k : Nat) (x : Int) : fxA k x (exA x) = exX k x * fxB x (exA x) := by
  unfold exA exX
  by_cases h : 0 ≤ x
  · rw [if_pos h, if_pos h]; exact fx_whole k h
  · rw [if_neg h, if_neg h]; exact fx_part k h
theorem ex_ne {k : Nat} (hk : k ≠ 0) (x : Int) : exX k x ≠ 0 := by
  unfold exX
  split
  · exact Nat.mul_ne_zero hk (Nat.ne_of_gt (Nat.two_pow_pos _))
  · exact Nat.mul_ne_zero hk (Nat.ne_of_gt (Nat.pow_pos (by decide)))
theorem ex_bl {k : Nat} {x : Int} (hk : k < 2 ^ 256) (hx : -17000 ≤ x ∧ x ≤ 17000) : bl (exX k x) ≤ 52000 := by
  unfold exX
  split
  · have := bl_mul_le hk (Nat.pow_lt_pow_succ (a := 2) (by decide) : 2 ^ x.toNat < 2 ^ (x.toNat + 1))
    omega
  · have h5 : 5 ^ (-x).toNat < 2 ^ (3 * (-x).toNat + 1) := by
      have a1 : 5 ^ (-x).toNat ≤ (2 ^ 3) ^ (-x).toNat := Nat.pow_le_pow_left (by decide) _
      rw [← Nat.pow_mul] at a1
      exact Nat.lt_of_le_of_lt a1 (Nat.pow_lt_pow_succ (by decide))
    have := bl_mul_le hk h5
    omega
theorem dcW_le (X : Nat) : (dcW X).length ≤ bl X := by
  unfold dcW
  by_cases h0 : X = 0
  · rw [if_pos h0]; exact Nat.zero_le _
  · rw [if_neg h0]
    have hX : (0 : Int) < X := by omega
    have hL : (X : Int) < 10 ^ bl X := by
      have h1 := (bl_bd h0).2.1
      have h2 := Nat.pow_le_pow_left (show 2 ≤ 10 by decide) (bl X)
      have h3 : X < 10 ^ bl X := by omega
      exact_mod_cast h3
    exact (dcD_facts hX hL).2.2
theorem exact10_n {n : Int} {V : Nat} (hV : V < 2 ^ 256) (hf : ¬ finP n V) (w : World) : Calls Tryz.prog 12 #[.int .i64 n, A4 V] w fun r w' => r = .returned (.tuple #[.string (B []), .int .i64 0, .int .i64 (if goodN n V then 6 else 1)]) ∧ Below w.heap.size w w' := by
  have c6 := fun W => runpack_any n V W hV
  by_cases hg : goodN n V
  · rw [if_pos hg]
    rw [show unE n V = 0 from if_pos hg] at c6
    by_cases hc : (unD n V).c = 1
    · have hk : (unD n V).k = 0 := by
        by_cases hk : (unD n V).k = 0
        · exact hk
        · exact absurd ⟨hg, hc, hk⟩ hf
      exact x10_0 n V _ _ _ _ _ w c6 hc hk
    · exact x10_c n V _ _ _ _ _ w c6 (by simpa using hc)
  · rw [if_neg hg]
    rw [show unE n V = 1 from if_neg hg] at c6
    exact x10_e n V _ _ _ _ _ w 1 (by decide) c6
def stW (T : List UInt8) (l : UInt8) (j : Nat) : ByteArray := B (T ++ [l] ++ List.replicate j 48)
theorem stW_zero (T : List UInt8) (l : UInt8) : stW T l 0 = B (T ++ [l]) := by unfold stW; rw [List.replicate_zero, List.append_nil]
theorem stW_size (T : List UInt8) (l : UInt8) (j : Nat) : (stW T l j).size = T.length + 1 + j := by unfold stW; rw [B_size]; simp; omega
theorem stW_ext (T : List UInt8) (l : UInt8) (j : Nat) : (stW T l (j + 1)).extract 0 (T.length + 1 + j) = stW T l j := by
  unfold stW
  rw [B_ext, List.drop_zero]
  congr 1
  rw [List.replicate_succ', ← List.append_assoc]
  exact List.take_left' (by simp; omega)
theorem stW_i0 (T : List UInt8) (l : UInt8) : IDX (stW T l 0) T.length (l.toNat : Int) := by
  rw [stW_zero]
  intro h
  rw [by_lt h, by_snoc']
theorem stW_i1 (T : List UInt8) (l : UInt8) (j : Nat) : IDX (stW T l (j + 1)) (T.length + 1 + j) 48 := by
  unfold stW
  intro h
  rw [by_lt h, by_rep' (by simp) (by simp)]
theorem exact10_k {n : Int} {V Y z : Nat} (hV : V < 2 ^ 256) (hf : finP n V) (hX : exX (unD n V).k (unD n V).x = Y * 10 ^ z) (hY : Y % 10 ≠ 0) (w : World) :
    Calls Tryz.prog 12 #[.int .i64 n, A4 V] w fun r w' => r = .returned (.tuple #[.string (B (dcW Y)), .int .i64 (exA (unD n V).x + z), .int .i64 0]) ∧ Below w.heap.size w w' := by
  obtain ⟨hg, hc, hk⟩ := hf
  obtain ⟨hb, hkb, hx1, hx2, hD⟩ := fin_facts ⟨hg, hc, hk⟩
  have c6 := fun W => runpack_any n V W hV
  rw [show unE n V = 0 from if_pos hg] at c6
  have eD : (unD n V).v = DV 1 (unD n V).s (unD n V).g (unD n V).x (unD n V).k := by rw [← hc]
  rw [eD] at c6
  generalize (unD n V).s = s at *
  generalize (unD n V).g = g at *
  generalize (unD n V).x = x at *
  generalize (unD n V).k = k at *
  obtain ⟨T, l, eT, hl, _⟩ := dcW_last hY
  have hbl := ex_bl hkb (show -17000 ≤ x ∧ x ≤ 17000 by omega)
  have eX : dcW (exX k x) = T ++ [l] ++ List.replicate z 48 := by rw [hX, dcW_zeros (by omega), eT]
  have hlen := dcW_le (exX k x)
  rw [eX] at hlen
  simp only [List.length_append, List.length_cons, List.length_nil, List.length_replicate] at hlen
  have c8 := fun W => rnat_v k W hkb
  have c12 : ∀ W u, NT 2000 (exX k x) u W → Calls Tryz.prog 31 #[u] W fun r w' => r = .returned (.string (stW T l z)) ∧ Below W.heap.size W w' := fun W u hu => by
    have := dec_nW (w := W) (v := u) (K := 2000) (by decide) (by omega) hu.nv
    rw [eX] at this
    exact this
  have hlb := l.toNat_lt
  have hT1 : T.length ≤ 100000 := by omega
  have hz1 : z ≤ 100000 := by omega
  rw [eT, ← stW_zero]
  by_cases hx : 0 ≤ x
  · have e1 : exX k x = k * 2 ^ x.toNat := if_pos hx
    have e2 : exA x = 0 := if_pos hx
    rw [e2, Int.zero_add]
    rw [e1] at hbl c12
    refine x10_p n V 1 s g x k w c6 rfl hk hkb (by omega) 2000 (k * 2 ^ x.toNat) z T.length (stW T l) _ hl (by omega) hT1 hz1 (fun j _ => stW_size T l j) (fun j _ => stW_ext T l j) (stW_i0 T l) (fun j _ => stW_i1 T l j) c8 c12 hx fun W v hv => ?_
    have := rleft_nt x.toNat (by decide) (by omega) hv.nv
    rw [Int.toNat_of_nonneg hx] at this
    exact this.mono fun r w' ⟨u, e, hu, hb⟩ => ⟨u, e, hu.tight (by omega), hb⟩
  · have e1 : exX k x = k * 5 ^ (-x).toNat := if_neg hx
    have e2 : exA x = x := if_neg hx
    rw [e2]
    rw [e1] at hbl c12
    refine x10_n n V 1 s g x k w c6 rfl hk hkb (by omega) 2000 (k * 5 ^ (-x).toNat) z T.length (stW T l) _ hl (by omega) hT1 hz1 (fun j _ => stW_size T l j) (fun j _ => stW_ext T l j) (stW_i0 T l) (fun j _ => stW_i1 T l j) c8 c12 hx 70000 (5 ^ (-x).toNat) (fun W => ?_) (fun W v p hv hp => ?_)
    · have := pow5_nv (-x).toNat W (by omega)
      rw [Int.toNat_of_nonneg (show 0 ≤ -x by omega)] at this
      exact this
    · exact (rtimes_nt (by decide) (by decide) hv.nv hp).mono fun r w' ⟨u, e, hu, hb⟩ => ⟨u, e, hu.tight (by omega), hb⟩
end Go.Proofs.YtogfiipmebgnjaaGreatDoor

namespace Go.Proofs.YtogfiipmebgnjaaGreatDoor
open Go.RowKit

section
variable {a : Act} {w : World} {K : Act → World → Prop} {Q : Exit → Act → World → Prop} {d p : Nat} {ty : TypeId} {pos : String} {after : Array Edge} {gd : Option (Nat × Bool)}
theorem og_c1 {F : Nat} {p0 : Nat} {u0 : Value} {ts : Array TypeId} (hr : Sem.run Tryz.prog (callFunc F #[u0]) w = .ok (.enter F #[u0]) w) (h0 : slot a p0 = u0) (hc : Calls Tryz.prog F #[u0] w fun e w' => ∃ v, e = .returned v ∧ K (a.put (some d) v) w') : Oper.wp Tryz.prog { dst := some d, op := Op.call { callee := Callee.value (Operand.func F), args := #[Operand.tmp p0], argTypes := ts }, type := ty, pos := pos, after := after, guard := gd } a w K Q := by
  unfold slot at h0
  simp [go_sem, h0, hr]
  refine hc.mono ?_
  rintro e w' ⟨v, rfl, hK⟩
  exact hK
theorem og_c2 {F : Nat} {p0 p1 : Nat} {u0 u1 : Value} {ts : Array TypeId} (hr : Sem.run Tryz.prog (callFunc F #[u0, u1]) w = .ok (.enter F #[u0, u1]) w) (h0 : slot a p0 = u0) (h1 : slot a p1 = u1) (hc : Calls Tryz.prog F #[u0, u1] w fun e w' => ∃ v, e = .returned v ∧ K (a.put (some d) v) w') : Oper.wp Tryz.prog { dst := some d, op := Op.call { callee := Callee.value (Operand.func F), args := #[Operand.tmp p0, Operand.tmp p1], argTypes := ts }, type := ty, pos := pos, after := after, guard := gd } a w K Q := by
  unfold slot at h0 h1
  simp [go_sem, h0, h1, hr]
  refine hc.mono ?_
  rintro e w' ⟨v, rfl, hK⟩
  exact hK
theorem og_ext {P : Program} {vs : Array Value} {i : Nat} {v : Value} (h1 : slot a p = .tuple vs) (h2 : vs[i]? = some v) (hK : K (a.put (some d) v) w) : Oper.wp P { dst := some d, op := Op.extract (Operand.tmp p) i, type := ty, pos := pos, after := after, guard := gd } a w K Q := by
  unfold slot at h1
  simp [go_sem, h1, h2]
  exact hK
theorem og_sl4 {g : Nat} (h1 : slot a p = .pointer (some ⟨g, 4, none⟩)) (hK : K (a.put (some d) (.slice (some ⟨g, 4, none⟩) 4 4)) w) : Oper.wp Tryz.prog { dst := some d, op := Op.slice 24 (Operand.tmp p) none none none, type := ty, pos := pos, after := after, guard := gd } a w K Q := by
  unfold slot at h1
  simp [go_sem, h1]
  exact hK
end
end Go.Proofs.YtogfiipmebgnjaaGreatDoor
