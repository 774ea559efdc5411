/-
  Texts that the proof leans on, joined: Wr9, Sh8, Sy9, Wv9, Si8, Lift, Lfw, Lfd, Lk.
-/
import Derived.Test.YtckkibmehjlgaaaGreatDoorL33
import Derived.Test.YtckkibmehjlgaaaGreatDoorL1
import Derived.Test.YtckkibmehjlgaaaGreatDoorL31
import Derived.Test.YtckkibmehjlgaaaGreatDoorL26
import Derived.Test.YtckkibmehjlgaaaGreatDoorL30
import Derived.ProofKit
import Derived.OpenShut
import Derived.Carry
import Derived.Deep.DeepHandedRow
import Derived.Test.YtckkibmehjlgaaaGreatDoorL2
import Derived.Test.YtckkibmehjlgaaaGreatDoorL15
import Derived.Test.YtckkibmehjlgaaaGreatDoorL23
import Derived.Test.YtckkibmehjlgaaaGreatDoorRows
import Derived.LaidLaws
import Derived.ChangeMaps5
set_option linter.unusedVariables false
set_option linter.unusedSectionVars false
set_option linter.unusedSimpArgs false
set_option maxRecDepth 20000
namespace Go.Proofs.YtckkibmehjlgaaaGreatDoor
open Go.RowKit

attribute [local irreducible] W4
section
variable (n : Int) (s g : Bool) (x : Int) (k : Nat) (w : World)
set_option maxHeartbeats 2000000 in
theorem uns_i : Calls Tryz.prog 39 #[.int .i64 n, DV 2 s g x k] w fun r w' => r = .returned (.string (B [105, 110, 102])) ∧ Below w.heap.size w w' := by
  have e : B [105, 110, 102] = ⟨#[105, 110, 102]⟩ := rfl
  rw [e]
  unfold DV
  go_enter Tryz.func39, Tryz.ntmps39
  go_wp2
  go_ret
  exact ⟨rfl, bgo⟩
set_option maxHeartbeats 2000000 in
theorem uns_n (T : List UInt8) (c71 : ∀ W, Calls Tryz.prog 71 #[DV 3 s g x k] W fun r w' => r = .returned (.string (B T)) ∧ Below W.heap.size W w') :
    Calls Tryz.prog 39 #[.int .i64 n, DV 3 s g x k] w fun r w' => r = .returned (.string (B T)) ∧ Below w.heap.size w w' := by
  have hsm := cell_set_map
  unfold DV at *
  go_enter Tryz.func39, Tryz.ntmps39
  go_wp2_with (go_at_call 71; refine (c71 _).mono ?_; rintro r w1 ⟨rfl, hb1⟩; obtain ⟨hc1, hf1⟩ := bcell hb1; have hz1_0 : w.heap.size < w1.heap.size := lt_below hb1 ltg; have hl1_0 := Nat.le_of_lt hz1_0; have hA1 := bnext (w0 := w) bgo hb1; have hs1 := hA1.size; clear hb1)
  go_ret
  exact ⟨rfl, bgo⟩
set_option maxHeartbeats 2000000 in
theorem uns_0 (c23 : ∀ W, Calls Tryz.prog 23 #[DV 1 s g x k] W fun r w' => r = .returned (.bool true) ∧ Below W.heap.size W w') :
    Calls Tryz.prog 39 #[.int .i64 n, DV 1 s g x k] w fun r w' => r = .returned (.string (B [48, 101, 48])) ∧ Below w.heap.size w w' := by
  have e : B [48, 101, 48] = ⟨#[48, 101, 48]⟩ := rfl
  rw [e]
  have hsm := cell_set_map
  unfold DV at *
  go_enter Tryz.func39, Tryz.ntmps39
  go_wp2_with (go_at_call 23; refine (c23 _).mono ?_; rintro r w1 ⟨rfl, hb1⟩; obtain ⟨hc1, hf1⟩ := bcell hb1; have hz1_0 : w.heap.size < w1.heap.size := lt_below hb1 ltg; have hl1_0 := Nat.le_of_lt hz1_0; have hA1 := bnext (w0 := w) bgo hb1; have hs1 := hA1.size; clear hb1)
  go_ret
  exact ⟨rfl, bgo⟩
end
section
variable (n : Int) (Bp : Nat) (c : Int) (s g : Bool) (x : Int) (k : Nat) (w : World) (hT10 : Tb10 w)
variable (c16 : ∀ W, Calls Tryz.prog 16 #[.int .i64 n, A4 Bp] W fun r w' => r = .returned (.tuple #[DV c s g x k, .int .i64 0]) ∧ Below W.heap.size W w')
include hT10 c16
variable (hc : c = 1)
include hc
end
/-- a pattern's text, the program's -/
theorem write_of {n : Int} {V : Nat} {w : World} (hT : Tab w) (hT10 : Tb10 w) (T : List UInt8) (hl : T.length ≤ 100000) (hV : V < 2 ^ 256) (hg : goodN n V)
    (c39 : ∀ W, Tab W → Tb10 W → Calls Tryz.prog 39 #[.int .i64 n, (unD n V).v] W fun r w' => r = .returned (.string (B T)) ∧ Below W.heap.size W w') :
    Calls Tryz.prog 12 #[.int .i64 n, A4 V] w fun r w' => r = .returned (.tuple #[.string (B (sgL (unD n V).s ++ T)), .int .i64 0]) ∧ Below w.heap.size w w' := by
  have c22 := fun W (hW : Tab W) => unpack_any n V W hW hV
  rw [show unE n V = 0 from if_pos hg] at c22
  cases hs : (unD n V).s
  · exact wr_p n V (unD n V).c (unD n V).s (unD n V).g (unD n V).x (unD n V).k w hT hT10 T hs c22 c39
  · exact wr_m n V (unD n V).c (unD n V).s (unD n V).g (unD n V).x (unD n V).k w hT hT10 T hl hs c22 c39
/-- the text of a pattern -/
def wrT (n : Int) (V : Nat) (E : Int) (K : Nat) : List UInt8 :=
  if (unD n V).c = 2 then [105, 110, 102] else if (unD n V).c = 3 then nanT (unD n V).g (dcL (unD n V).k)
  else if (unD n V).k = 0 then [48, 101, 48] else unT (sdT n (unD n V).x (unD n V).k E K) (E + (sdC n (unD n V).x (unD n V).k E K : Nat))
theorem unT_len {D : List UInt8} {e : Int} (hD : D.length ≤ 1000) (he : -100000 ≤ e ∧ e ≤ 100000) : (unT D e).length ≤ 3000 := by
  have := itoa_short he
  unfold unT
  rw [List.length_append, List.length_append, List.length_append, List.length_take]
  split
  · simp; omega
  · simp; omega
theorem nanT_len {g : Bool} {d : List UInt8} (h : d.length ≤ 660) : (nanT g d).length ≤ 3000 := by
  unfold nanT
  rw [List.length_append, List.length_append]
  split <;> split <;> simp <;> omega
theorem shd_any (n : Int) (V : Nat) : ∃ E K, goodN n V → (unD n V).c = 1 → (unD n V).k ≠ 0 → Shd n (unD n V).x (unD n V).k E K := by
  by_cases h : finP n V
  · obtain ⟨hb, hkb, hx1, hx2, _⟩ := fin_facts h
    obtain ⟨E, K, hS⟩ := Shd.ex (n := n) hkb h.2.2 ⟨hx1, hx2⟩
    exact ⟨E, K, fun _ _ _ => hS⟩
  · exact ⟨0, 0, fun h1 h2 h3 => absurd ⟨h1, h2, h3⟩ h⟩
end Go.Proofs.YtckkibmehjlgaaaGreatDoor

namespace Go.Proofs.YtckkibmehjlgaaaGreatDoor
open Go.RowKit

/-- an exponent that is always written -/
theorem ex_any (e : Int) (h : -1000000000 ≤ e ∧ e ≤ 1000000000) : exB (101 :: Lib.itoa e) = true ∧ exI (101 :: Lib.itoa e) = e ∧ Lib.hasPrefix (101 :: Lib.itoa e) [46] = false ∧ dgs (101 :: Lib.itoa e) = [] ∧ rst (101 :: Lib.itoa e) = 101 :: Lib.itoa e := by
  by_cases h0 : e = 0
  · subst h0
    have e0 : Lib.itoa 0 = [48] := by kernel_rfl
    rw [e0]
    exact ⟨by decide, by decide, by decide, by decide, by decide⟩
  · have := exT_cut e h
    unfold exT at this
    rw [if_neg h0] at this
    exact this
theorem clamp_id {e : Int} (h : -1000000000 ≤ e ∧ e ≤ 1000000000) : clampE e = e := by unfold clampE; omega
/-- the text of digits with an exponent -/
theorem un_cut (s : Bool) {c : UInt8} {r : List UInt8} {e : Int} (hc : dg c = true) (hc0 : (c.toNat : Int) ≠ 48) (hr : r.all dg = true) (hl : r.length ≤ 999) (he : -100000 ≤ e ∧ e ≤ 100000) :
    cutP (sgL s ++ unT (c :: r) e) = some ⟨1, s, false, c :: r, e - r.length⟩ := by
  have hlen : (unT (c :: r) e).length ≤ 3000 := unT_len (by simp; omega) he
  obtain ⟨x1, x2, x3, x4, x5⟩ := ex_any e (by omega)
  have hcn := dg_nat hc
  have hall : [c].all dg = true := by simp [hc]
  have hbar : bar (c :: r) = c :: r := by rw [bar_cons, if_neg hc0]
  have key : finB (unT (c :: r) e) = true ∧ finD (unT (c :: r) e) = c :: r ∧ finE (unT (c :: r) e) = e - r.length ∧ ∃ t, unT (c :: r) e = c :: t := by
    cases hr0 : r with
    | nil =>
      have hu : unT [c] e = [c] ++ (101 :: Lib.itoa e) := rfl
      rw [hu]
      obtain ⟨d1, d2⟩ := dgs_app2 (m := 101 :: Lib.itoa e) hall x4
      have f1 : frac ([c] ++ 101 :: Lib.itoa e) = [] := by unfold frac; rw [d2, x3]; rfl
      have f2 : behind ([c] ++ 101 :: Lib.itoa e) = 101 :: Lib.itoa e := by unfold behind; rw [d2, x3]; rfl
      refine ⟨?_, ?_, ?_, _, rfl⟩
      · unfold finB; rw [f1, f2, x1, d1]; rfl
      · unfold finD; rw [f1, d1]
        rw [hr0] at hbar
        exact hbar
      · unfold finE; rw [f1, f2, x2]
        exact clamp_id (by simp; omega)
    | cons a t =>
      rw [← hr0]
      have hu : unT (c :: r) e = [c] ++ 46 :: (r ++ (101 :: Lib.itoa e)) := by
        unfold unT
        rw [hr0]
        simp
      rw [hu]
      obtain ⟨d1, d2⟩ := dgs_app2 (m := 46 :: (r ++ (101 :: Lib.itoa e))) hall rfl
      obtain ⟨d3, d4⟩ := dgs_app2 (m := 101 :: Lib.itoa e) hr x4
      have e1 : Lib.hasPrefix (46 :: (r ++ (101 :: Lib.itoa e))) [46] = true := rfl
      have e2 : Lib.trimPrefix (46 :: (r ++ (101 :: Lib.itoa e))) [46] = r ++ (101 :: Lib.itoa e) := rfl
      have f1 : frac ([c] ++ 46 :: (r ++ (101 :: Lib.itoa e))) = r := by unfold frac; rw [d2, e1, e2, d3]; rfl
      have f2 : behind ([c] ++ 46 :: (r ++ (101 :: Lib.itoa e))) = 101 :: Lib.itoa e := by unfold behind; rw [d2, e1, e2, d4]; rfl
      refine ⟨?_, ?_, ?_, _, rfl⟩
      · unfold finB; rw [f1, f2, x1, d1]; rfl
      · unfold finD; rw [f1, d1]
        exact hbar
      · unfold finE; rw [f1, f2, x2]
        exact clamp_id (by omega)
  obtain ⟨k1, k2, k3, t, k4⟩ := key
  unfold cutP
  have hs : (sgL s ++ unT (c :: r) e).length ≤ 4000 := by
    rw [List.length_append]
    have : (sgL s).length ≤ 1 := by cases s <;> decide
    omega
  rw [if_neg (by omega)]
  have hsg : gsgB (sgL s ++ unT (c :: r) e) = s ∧ sgR (sgL s ++ unT (c :: r) e) = unT (c :: r) e := by
    rw [k4]
    exact sig_app s c t ⟨by omega, by omega⟩
  rw [hsg.1, hsg.2]
  unfold bodP
  rw [if_pos k1, k2, k3]
theorem sd_cons {n x : Int} {k : Nat} {E : Int} {K : Nat} (hS : Shd n x k E K) : ∃ c r, sdT n x k E K = c :: r ∧ dg c = true ∧ (c.toNat : Int) ≠ 48 ∧ r.all dg = true := by
  have hZ := zE_pos x E
  have hZR : zE x E ≤ 4 * k * oE x E := hS.t0
  have hR : 4 * k * oE x E < 10 * zE x E := by
    have := hS.t1
    rw [tn_next] at this
    omega
  unfold sdT shT
  by_cases h10 : laK (evK k) (4 * k * oE x E) (lwN n x k * oE x E) (2 * oE x E) (zE x E) K = 10
  · rw [if_pos h10]
    exact ⟨49, [], rfl, by decide, by decide, rfl⟩
  · rw [if_neg h10]
    have hl9 : laK (evK k) (4 * k * oE x E) (lwN n x k * oE x E) (2 * oE x E) (zE x E) K ≤ 9 := by
      have := laK_le (c := evK k) (d := lwN n x k * oE x E) (u := 2 * oE x E) hZ hR K
      omega
    have hl1 := la_pos (c := evK k) (d := lwN n x k * oE x E) (u := 2 * oE x E) hZ hZR hS.st hS.mn
    have h9 := dgK_le hZ hR 0
    have h1 := dg0_pos hZ hZR
    cases K with
    | zero =>
      refine ⟨_, [], rfl, dg_ofNat hl9, ?_, rfl⟩
      rw [ofNat_dg hl9]; omega
    | succ K =>
      have ha := ds_all hZ hR (K + 1)
      obtain ⟨r, hr⟩ := ds_first hZ hR hZR K
      rw [hr] at ha ⊢
      rw [List.all_cons, Bool.and_eq_true] at ha
      refine ⟨_, r ++ _, rfl, ha.1, ?_, ?_⟩
      · rw [ofNat_dg h9]; omega
      · rw [List.all_append, ha.2, Bool.true_and, List.all_cons, dg_ofNat hl9]; rfl
/-- the first digit's place is not far -/
theorem tn_far {k : Nat} {x E : Int} (hk : k < 2 ^ 256) (hx : x ≤ 16990) (h : tnP k x E) : E ≤ 5191 := by
  apply Classical.byContradiction
  intro hE
  have hE : 5192 ≤ E := by omega
  unfold tnP zE oE at h
  have e1 : (-E).toNat = 0 := by omega
  rw [e1, Nat.pow_zero, Nat.mul_one] at h
  obtain ⟨t, ht⟩ : ∃ t : Nat, t = 5192 := ⟨_, rfl⟩
  obtain ⟨a, ha⟩ : ∃ a : Nat, a = 16990 := ⟨_, rfl⟩
  have h1 : 10 ^ t ≤ 10 ^ E.toNat := Nat.pow_le_pow_right (by decide) (by omega)
  have h2 : 2 ^ x.toNat ≤ 2 ^ a := Nat.pow_le_pow_right (by decide) (by omega)
  have h3 : 1 ≤ 2 ^ (-x).toNat := Nat.two_pow_pos _
  have h4 : 2 ^ 256 * 2 ^ a ≤ 10 ^ t := by
    rw [← Nat.pow_add]
    exact two_le_ten (by omega)
  have h5 : k * 2 ^ x.toNat < 2 ^ 256 * 2 ^ a := Nat.lt_of_lt_of_le (Nat.mul_lt_mul_of_pos_right hk (Nat.two_pow_pos _)) (Nat.mul_le_mul_left _ h2)
  have h6 : 1 * 10 ^ E.toNat ≤ 2 ^ (-x).toNat * 10 ^ E.toNat := Nat.mul_le_mul_right _ h3
  rw [Nat.mul_assoc, Nat.mul_assoc] at h
  have h7 := Nat.le_of_mul_le_mul_left h (by decide : 0 < 4)
  rw [Nat.one_mul] at h6
  exact absurd (Nat.lt_of_le_of_lt (Nat.le_trans h1 (Nat.le_trans h6 h7)) (Nat.lt_of_lt_of_le h5 h4)) (Nat.lt_irrefl _)
theorem pay_id {f k : Nat} {g : Bool} (hf : 1 ≤ f) (hk : k < 2 ^ (f - 1)) (hg : k ≠ 0 ∨ g = false) : plV f g k = k := by
  have hbl : bl k ≤ f - 1 := bl_le.2 hk
  have e : plA f k = k := by unfold plA; rw [if_neg (by omega)]
  unfold plV
  rw [e]
  split
  · rename_i h
    rcases hg with h2 | h2
    · exact absurd h.2 h2
    · rw [h2] at h; exact absurd h.1 (by decide)
  · rfl
/-- what was written reads back as the pattern -/
theorem wr_back {n : Int} {V : Nat} {E : Int} {K : Nat} (hg : goodN n V) (hS : (unD n V).c = 1 → (unD n V).k ≠ 0 → Shd n (unD n V).x (unD n V).k E K) :
    ∃ p, cutP (sgL (unD n V).s ++ wrT n V E K) = some p ∧ mkV n 0 p = V ∧ (mkF n 0 p = 0 ∨ mkF n 0 p = 8 ∨ mkF n 0 p = 12) := by
  have hV := (back_un hg).2
  have hb := hg.1
  have hkk := unD_k n V
  have hD := un_isD hg
  have hf1 : 1 ≤ fN n := by
    rcases bin_cases hb with h | h | h | h | h | h <;> rw [h] <;> decide
  unfold wrT
  generalize hd : unD n V = d at *
  obtain ⟨c, s, g, x, k⟩ := d
  dsimp only at *
  rcases hD with ⟨h1, h2, h3, h4, h5, h6⟩ | ⟨h1, h2, h3, h4⟩ | ⟨h1, h2, h3, h4⟩
  · dsimp only at h1 h2 h3 h4 h5 h6
    subst h1 h2
    rw [if_neg (by decide), if_neg (by decide)]
    by_cases h0 : k = 0
    · rw [if_pos h0]
      have hx : x = leastN n := by
        rcases h6 with h | h
        · have := Nat.two_pow_pos (fN n); omega
        · exact h
      refine ⟨⟨1, s, false, [], 0⟩, by cases s <;> kernel_rfl, ?_, ?_⟩
      · unfold mkV
        rw [if_pos rfl]
        have : tN (dV []) (pwE ([] : List UInt8).length 0) = 0 := by rw [dV_nil]; unfold tN; rw [Nat.zero_mul]
        dsimp only at this ⊢
        rw [this]
        unfold rdV
        rw [if_pos rfl, ← hx, ← h0]
        exact hV
      · left
        unfold mkF
        rw [if_pos rfl]
        have : tN (dV []) (pwE ([] : List UInt8).length 0) = 0 := by rw [dV_nil]; unfold tN; rw [Nat.zero_mul]
        dsimp only at this ⊢
        rw [this]
        unfold rdF
        rw [if_pos rfl]
    · rw [if_neg h0]
      have hS' := hS rfl h0
      obtain ⟨hx1, hx2⟩ := bin_x hb h4 h5
      obtain ⟨b1, b2, b3⟩ := hS'.bd hkk h0 ⟨hx1, hx2⟩
      have hl := sd_len hkk h0 hS'
      have hfar := tn_far hkk hx2 hS'.t0
      have hc1 : sdC n x k E K ≤ 1 := by unfold sdC shC; split <;> omega
      obtain ⟨c, r, hT, hc, hc0, hr⟩ := sd_cons hS'
      have hrl : r.length = K := by
        rw [hT, List.length_cons] at hl; omega
      have hback := sd_back (s := s) hb (Or.inl ⟨rfl, rfl, h3, h4, h5, h6⟩) h0 hS' _ rfl
      refine ⟨⟨1, s, false, c :: r, E + (sdC n x k E K : Nat) - r.length⟩, ?_, ?_⟩
      · rw [hT]
        exact un_cut s hc hc0 hr (by omega) (by omega)
      · have hp : pwE (c :: r).length (E + (sdC n x k E K : Nat) - r.length) = E - K + (sdC n x k E K : Nat) := by
          unfold pwE
          rw [List.length_cons, hrl]
          omega
        unfold mkV mkF
        rw [if_pos rfl, if_pos rfl]
        dsimp only
        rw [hp, ← hT]
        rw [hV] at hback
        exact hback
  · dsimp only at h1 h2 h3 h4
    subst h1 h2 h3 h4
    rw [if_pos rfl]
    refine ⟨⟨2, s, false, [], 0⟩, by cases s <;> kernel_rfl, ?_, Or.inl rfl⟩
    unfold mkV
    rw [if_neg (show ¬ (2 : Int) = 1 by decide), if_pos rfl]
    exact hV
  · dsimp only at h1 h2 h3 h4
    subst h1 h2
    rw [if_neg (by decide), if_pos rfl]
    obtain ⟨f1, f2, f3⟩ := dcL_facts hkk
    have hlen : (texT 3 s g (dcL k) 0).length ≤ 4000 := by
      have := tex_len2 (c := 3) (s := s) (g := g) (d := dcL k) (e := 0) (by decide)
      omega
    have hj := (jn_of_gd (p := ⟨3, s, g, dcL k, 0⟩) ⟨f1, Or.inr (Or.inr ⟨rfl, rfl, hlen⟩)⟩).2
    have e : texT 3 s g (dcL k) 0 = sgL s ++ nanT g (dcL k) := by unfold texT bodT sgL; rw [if_neg (show ¬ (3 : Int) = 2 by decide), if_pos rfl]
    refine ⟨⟨3, s, g, dcL k, 0⟩, ?_, ?_, Or.inl rfl⟩
    · rw [← e]; exact hj
    · unfold mkV
      rw [if_neg (show ¬ (3 : Int) = 1 by decide), if_neg (show ¬ (3 : Int) = 2 by decide)]
      dsimp only
      rw [f2, pay_id hf1 h3 h4]
      exact hV
end Go.Proofs.YtckkibmehjlgaaaGreatDoor

namespace Go.Proofs.YtckkibmehjlgaaaGreatDoor
open Go.RowKit

attribute [local irreducible] W4
section
variable (n : Int) (V : Nat) (c : Int) (s g : Bool) (x : Int) (k : Nat) (w : World) (hT : Tab w) (hT10 : Tb10 w)
variable (c9 : ∀ W, Below w.heap.size w W → Calls Tryz.prog 9 #[] W fun r w' => r = .returned (.bool true) ∧ Below W.heap.size W w')
include c9
variable (P M : Nat) (e1 e2 : Int) (T : List UInt8) (hl : T.length ≤ 100000)
  (c16 : ∀ W, Calls Tryz.prog 16 #[.int .i64 n, A4 V] W fun r w' => r = .returned (.tuple #[DV c s g x k, .int .i64 0]) ∧ Below W.heap.size W w')
  (c21p : ∀ W, Calls Tryz.prog 21 #[.int .i64 n, DV c false g x k] W fun r w' => r = .returned (.tuple #[A4 P, .int .i64 e1]) ∧ Below W.heap.size W w')
  (c21m : ∀ W, Calls Tryz.prog 21 #[.int .i64 n, DV c true g x k] W fun r w' => r = .returned (.tuple #[A4 M, .int .i64 e2]) ∧ Below W.heap.size W w')
  (c12p : ∀ W, Tab W → Tb10 W → Calls Tryz.prog 12 #[.int .i64 n, A4 P] W fun r w' => r = .returned (.tuple #[.string (B T), .int .i64 0]) ∧ Below W.heap.size W w')
  (c12m : ∀ W, Tab W → Tb10 W → Calls Tryz.prog 12 #[.int .i64 n, A4 M] W fun r w' => r = .returned (.tuple #[.string (B ([45] ++ T)), .int .i64 0]) ∧ Below W.heap.size W w')
include hT hT10 hl c16 c21p c21m c12p c12m
end
theorem wrT_len {n : Int} {V : Nat} {E : Int} {K : Nat} (hg : goodN n V) (hS : (unD n V).c = 1 → (unD n V).k ≠ 0 → Shd n (unD n V).x (unD n V).k E K) : (wrT n V E K).length ≤ 3000 := by
  unfold wrT
  have hkk := unD_k n V
  by_cases h2 : (unD n V).c = 2
  · rw [if_pos h2]; decide
  · rw [if_neg h2]
    by_cases h3 : (unD n V).c = 3
    · rw [if_pos h3]
      obtain ⟨_, _, f3⟩ := dcL_facts hkk
      exact nanT_len f3
    · rw [if_neg h3]
      by_cases h0 : (unD n V).k = 0
      · rw [if_pos h0]; decide
      · rw [if_neg h0]
        have h1 : (unD n V).c = 1 := by
          rcases un_isD hg with ⟨e1, _⟩ | ⟨e1, _⟩ | ⟨e1, _⟩
          · exact e1
          · exact absurd e1 h2
          · exact absurd e1 h3
        obtain ⟨hb, hkb, hx1, hx2, _⟩ := fin_facts ⟨hg, h1, h0⟩
        have hS' := hS h1 h0
        obtain ⟨b1, b2, b3⟩ := hS'.bd hkb h0 ⟨hx1, hx2⟩
        have hl := sd_len hkb h0 hS'
        have hc1 : sdC n (unD n V).x (unD n V).k E K ≤ 1 := by unfold sdC shC; split <;> omega
        exact unT_len (by omega) (by omega)
end Go.Proofs.YtckkibmehjlgaaaGreatDoor

namespace Go.Proofs.YtckkibmehjlgaaaGreatDoor
open Go.RowKit

attribute [local irreducible] W4
/-- Write, of a pattern that is the format's -/
theorem write1_of {n : Int} {V : Nat} {E : Int} {K : Nat} (hg : goodN n V) (hV : V < 2 ^ 256) (hS : (unD n V).c = 1 → (unD n V).k ≠ 0 → Shd n (unD n V).x (unD n V).k E K) (w : World) (hT : Tab w) (hT10 : Tb10 w) :
    Calls Tryz.prog 12 #[.int .i64 n, A4 V] w fun r w' => r = .returned (.tuple #[.string (B (sgL (unD n V).s ++ wrT n V E K)), .int .i64 0]) ∧ Below w.heap.size w w' := by
  have hkk := unD_k n V
  have hD := un_isD hg
  unfold wrT
  by_cases h2 : (unD n V).c = 2
  · rw [if_pos h2]
    refine write_of hT hT10 _ (by decide) hV hg fun W _ _ => ?_
    unfold Dat.v
    rw [h2]
    exact uns_i n (unD n V).s (unD n V).g (unD n V).x (unD n V).k W
  · rw [if_neg h2]
    by_cases h3 : (unD n V).c = 3
    · rw [if_pos h3]
      obtain ⟨_, _, f3⟩ := dcL_facts hkk
      refine write_of hT hT10 _ (Nat.le_trans (nanT_len f3) (by decide)) hV hg fun W _ _ => ?_
      unfold Dat.v
      rw [h3]
      exact uns_n n (unD n V).s (unD n V).g (unD n V).x (unD n V).k W _ fun W => nan_v 3 (unD n V).s (unD n V).g (unD n V).x (unD n V).k W hkk
    · rw [if_neg h3]
      have h1 : (unD n V).c = 1 := by
        rcases hD with ⟨e1, _⟩ | ⟨e1, _⟩ | ⟨e1, _⟩
        · exact e1
        · exact absurd e1 h2
        · exact absurd e1 h3
      by_cases h0 : (unD n V).k = 0
      · rw [if_pos h0]
        refine write_of hT hT10 _ (by decide) hV hg fun W _ _ => ?_
        unfold Dat.v
        rw [h1]
        refine uns_0 n (unD n V).s (unD n V).g (unD n V).x (unD n V).k W fun W => ?_
        have := none_v 1 (unD n V).s (unD n V).g (unD n V).x (unD n V).k W hkk
        rw [decide_eq_true h0] at this
        exact this
      · rw [if_neg h0]
        have hf : finP n V := ⟨hg, h1, h0⟩
        obtain ⟨hb, hkb, hx1, hx2, _⟩ := fin_facts hf
        have hS' := hS h1 h0
        obtain ⟨b1, b2, b3⟩ := hS'.bd hkb h0 ⟨hx1, hx2⟩
        have hl := sd_len hkb h0 hS'
        have hc1 : sdC n (unD n V).x (unD n V).k E K ≤ 1 := by unfold sdC shC; split <;> omega
        refine write_of hT hT10 _ (Nat.le_trans (unT_len (by omega) (by omega)) (by decide)) hV hg fun W hW hW10 => ?_
        unfold Dat.v
        rw [h1]
        have c23 : ∀ W, Calls Tryz.prog 23 #[DV 1 (unD n V).s (unD n V).g (unD n V).x (unD n V).k] W fun r w' => r = .returned (.bool false) ∧ Below W.heap.size W w' := fun W => by
          have := none_v 1 (unD n V).s (unD n V).g (unD n V).x (unD n V).k W hkk
          rw [decide_eq_false h0] at this
          exact this
        have c24 := fun W (hW : Tab W) => digitsOf_v (n := n) 1 (unD n V).s (unD n V).g W hW hb hkb h0 ⟨hx1, hx2⟩ hS'
        by_cases hK : K = 0
        · exact uns_1 n (unD n V).s (unD n V).g (unD n V).x (unD n V).k _ _ W hW hW10 (by omega) c23 c24 (by rw [hl, hK])
        · exact uns_m n (unD n V).s (unD n V).g (unD n V).x (unD n V).k _ _ W hW hW10 (by omega) c23 c24 (by omega) (by omega)
end Go.Proofs.YtckkibmehjlgaaaGreatDoor

namespace Go.Proofs.YtckkibmehjlgaaaGreatDoor
open Go.RowKit

attribute [local irreducible] W4
section
variable (n : Int) (V : Nat) (w : World) (hT : Tab w) (hT10 : Tb10 w)
variable (c9 : ∀ W, Below w.heap.size w W → Calls Tryz.prog 9 #[] W fun r w' => r = .returned (.bool true) ∧ Below W.heap.size W w')
include hT hT10 c9
set_option maxHeartbeats 2000000 in
theorem law5_e (E : Int) (hE : (E != 0) = true) (c12 : ∀ W, Tab W → Tb10 W → Calls Tryz.prog 12 #[.int .i64 n, A4 V] W fun r w' => r = .returned (.tuple #[.string ⟨#[]⟩, .int .i64 E]) ∧ Below W.heap.size W w')
    (c14 : ∀ W, Calls Tryz.prog 14 #[.int .i64 n, A4 V] W fun r w' => r = .returned (.bool false) ∧ Below W.heap.size W w') :
    Calls Tryz.prog 5 #[.int .i64 n, A4 V] w fun r w' => r = .returned (.bool true) ∧ Below w.heap.size w w' := by
  have hsm := cell_set_map
  unfold A4 at *
  go_enter Tryz.func5, Tryz.ntmps5
  go_wp2_with (first
    | (go_at_call 9; refine (c9 _ bgo).mono ?_; rintro r w1 ⟨rfl, hb1⟩; obtain ⟨hc1, hf1⟩ := bcell hb1; have hz1_0 : w.heap.size < w1.heap.size := lt_below hb1 ltg; have hl1_0 := Nat.le_of_lt hz1_0; have hA1 := bnext (w0 := w) bgo hb1; have hs1 := hA1.size; clear hb1)
    | (go_at_call 12; refine (c12 _ (hT.go bgo) (hT10.next bgo)).mono ?_; rintro r w2 ⟨rfl, hb2⟩; obtain ⟨hc2, hf2⟩ := bcell hb2; have hz2_0 : w.heap.size < w2.heap.size := lt_below hb2 ltg; have hl2_0 := Nat.le_of_lt hz2_0; have hA2 := bnext (w0 := w) bgo hb2; have hs2 := hA2.size; clear hb2)
    | (go_at_call 14; refine (c14 _).mono ?_; rintro r w3 ⟨rfl, hb3⟩; obtain ⟨hc3, hf3⟩ := bcell hb3; have hz3_0 : w.heap.size < w3.heap.size := lt_below hb3 ltg; have hl3_0 := Nat.le_of_lt hz3_0; have hA3 := bnext (w0 := w) bgo hb3; have hs3 := hA3.size; clear hb3))
  go_ret
  exact ⟨by simp, bgo⟩
set_option maxHeartbeats 4000000 in
theorem law5_w (T : List UInt8) (F : Int) (hF : F = 0 ∨ F = 8 ∨ F = 12)
    (c12 : ∀ W, Tab W → Tb10 W → Calls Tryz.prog 12 #[.int .i64 n, A4 V] W fun r w' => r = .returned (.tuple #[.string (B T), .int .i64 0]) ∧ Below W.heap.size W w')
    (c15 : ∀ W, Tab W → Tb10 W → Calls Tryz.prog 15 #[.int .i64 n, .int .i64 0, .string (B T)] W fun r w' => r = .returned (.tuple #[A4 V, .int .i64 F, .int .i64 0]) ∧ Below W.heap.size W w') :
    Calls Tryz.prog 5 #[.int .i64 n, A4 V] w fun r w' => r = .returned (.bool true) ∧ Below w.heap.size w w' := by
  have hsm := cell_set_map
  have h24 := eq24 (W4 V 0) (W4 V 1) (W4 V 2) (W4 V 3) (W4 V 0) (W4 V 1) (W4 V 2) (W4 V 3)
  rw [show decide (W4 V 0 = W4 V 0 ∧ W4 V 1 = W4 V 1 ∧ W4 V 2 = W4 V 2 ∧ W4 V 3 = W4 V 3) = true by simp] at h24
  unfold A4 at *
  rcases hF with rfl | rfl | rfl
  all_goals
    go_enter Tryz.func5, Tryz.ntmps5
    go_wp2_with (first
      | (go_at_call 9; refine (c9 _ bgo).mono ?_; rintro r w1 ⟨rfl, hb1⟩; obtain ⟨hc1, hf1⟩ := bcell hb1; have hz1_0 : w.heap.size < w1.heap.size := lt_below hb1 ltg; have hl1_0 := Nat.le_of_lt hz1_0; have hA1 := bnext (w0 := w) bgo hb1; have hs1 := hA1.size; clear hb1)
      | (go_at_call 12; refine (c12 _ (hT.go bgo) (hT10.next bgo)).mono ?_; rintro r w2 ⟨rfl, hb2⟩; obtain ⟨hc2, hf2⟩ := bcell hb2; have hz2_0 : w.heap.size < w2.heap.size := lt_below hb2 ltg; have hl2_0 := Nat.le_of_lt hz2_0; have hA2 := bnext (w0 := w) bgo hb2; have hs2 := hA2.size; clear hb2)
      | (go_at_call 15; refine (c15 _ (hT.go bgo) (hT10.next bgo)).mono ?_; rintro r w3 ⟨rfl, hb3⟩; obtain ⟨hc3, hf3⟩ := bcell hb3; have hz3_0 : w.heap.size < w3.heap.size := lt_below hb3 ltg; have hl3_0 := Nat.le_of_lt hz3_0; have hA3 := bnext (w0 := w) bgo hb3; have hs3 := hA3.size; clear hb3))
    go_ret
    exact ⟨by simp, bgo⟩
end
/-- ShortestBack -/
theorem shortestBack_any (n : Int) (V : Nat) (w : World) (hT : Tab w) (hT10 : Tb10 w) (hV : V < 2 ^ 256) :
    Calls Tryz.prog 5 #[.int .i64 n, A4 V] w fun r w' => r = .returned (.bool true) ∧ Below w.heap.size w w' := by
  have c9 := fun W (hW : Below w.heap.size w W) => awake9 W (hT.go hW) (hT10.next hW)
  by_cases hg : goodN n V
  · obtain ⟨E, K, hS⟩ := shd_any n V
    have hS := hS hg
    obtain ⟨p, hp, hpv, hpf⟩ := wr_back hg hS
    have hl : (sgL (unD n V).s ++ wrT n V E K).length ≤ 3001 := by
      rw [List.length_append]
      have h1 := wrT_len hg hS
      have : (sgL (unD n V).s).length ≤ 1 := by cases (unD n V).s <;> decide
      omega
    refine law5_w n V w hT hT10 c9 _ _ hpf (fun W hW hW10 => write1_of hg hV hS W hW hW10) fun W hW hW10 => ?_
    have := read_v (n := n) (d := 0) hg.1 (by decide) hp hl W hW hW10
    rw [hpv] at this
    exact this
  · have c22 := fun W (hW : Tab W) => unpack_any n V W hW hV
    have e1 : unE n V = 1 := if_neg hg
    rw [e1] at c22
    refine law5_e n V w hT hT10 c9 1 (by decide) (fun W hW _ => wr_e n V (unD n V).c (unD n V).s (unD n V).g (unD n V).x (unD n V).k W hW 1 (by decide) c22) fun W => ?_
    have := rgood_any n V hV W
    rw [decide_eq_false hg] at this
    exact this
end Go.Proofs.YtckkibmehjlgaaaGreatDoor

namespace Go.Proofs.YtckkibmehjlgaaaGreatDoor
open Go.ChangeShapes Go.WideShapes Go.ChangeAt Go.RowKit

theorem Tryz.own : ownKnob Tryz.prog.godebug = none := by kernel_rfl
theorem Tryz.laidOut : laidOutB Tryz.prog = true := by kernel_rfl
def tabCells : Array Value := ((List.range 12).flatMap fun i => (List.range 4).map fun k => rowV i k).toArray
def layCells (c : Array Value) : Obj → Obj
  | .cells _ t frozen => .cells c t frozen
  | o => o
end Go.Proofs.YtckkibmehjlgaaaGreatDoor

set_option maxRecDepth 100000
set_option maxRecDepth 20000
namespace Go.Proofs.YtckkibmehjlgaaaGreatDoor
open Go.ChangeShapes Go.WideShapes Go.ChangeAt Go.RowKit

theorem Tryz.cells22 : Tryz.prog.cellsOf 22 = 1 := by kernel_rfl
section
variable {H : Type} {enc : TypeId × Value → H} {W : World} {r : Reach} {base b : Nat} {sp : Nat → Bool} {held : Bool} {t : TypeId} {n : Nat} {v : Value} {d : DataW H} {p : List MemPlace}
theorem open_words (ht : Tryz.prog.underlying t = some (.array n 22)) (hc : Tryz.prog.cellsOf t = n) (hok : Value.okWide Tryz.prog W r base t v) (h : DataW.Trod enc Tryz.prog W b sp held t v d p) :
    ∃ x, Words x ∧ v = .agg (arrOf x n) ∧ p = [] := by
  have ho : ∃ cs, v = .agg cs ∧ cs.size = n := by
    simp only [Value.okWide, ht] at hok
    obtain ⟨cs, h1, h2, _⟩ := hok
    exact ⟨cs, h1, by rw [h2, hc]⟩
  obtain ⟨cs, rfl, hcs⟩ := ho
  obtain ⟨fuel, hf⟩ := h
  obtain ⟨xs, m, rfl, hx, hl, hlen, hi⟩ := DataW.trod_array ht hf
  have hcell : ∀ i, i < n → ∃ z, cs[i]? = some (.int .u64 z) ∧ xs[i]? = some (.lit (.int .u64 z), []) ∧ (0 ≤ z ∧ z ≤ 18446744073709551615) := by
    intro i hin
    have h1 := hi i hin
    rw [Tryz.cells22] at h1
    have hix : i < xs.length := by omega
    rw [List.getElem?_eq_getElem hix] at h1
    obtain ⟨z, hz, hxz, hw⟩ := DataW.trod_int Tryz.underlying22 h1
    refine ⟨z, ?_, ?_, bounds_u64 hw⟩
    · have hic : i < cs.size := by omega
      have : ((Value.agg cs).cells.toList.drop (i * 1)).take 1 = [cs[i]] := by
        simp [Value.cells, List.take_one, List.head?_drop, hic]
      rw [this] at hz
      rw [Array.getElem?_eq_getElem hic]
      simpa using hz
    · rw [List.getElem?_eq_getElem hix, hxz]
  refine ⟨fun i => match cs[i]? with | some (.int .u64 z) => (if i < n then z else 0) | _ => 0, ?_, ?_, ?_⟩
  · intro i
    by_cases hin : i < n
    · obtain ⟨z, h1, _, h3⟩ := hcell i hin
      simp only [h1, if_pos hin]; exact h3
    · have : cs[i]? = none := by simp; omega
      simp only [this]; omega
  · congr 1
    refine arrOf_of cs n _ hcs fun i hin => ?_
    obtain ⟨z, h1, _, _⟩ := hcell i hin
    simp only [h1, if_pos hin]
  · have : p = xs.flatMap (·.2) := by
      have := congrArg Prod.snd hx; simpa using this
    rw [this]
    simp only [List.flatMap_eq_nil_iff]
    intro y hy
    obtain ⟨i, hin, rfl⟩ := List.getElem_of_mem hy
    obtain ⟨z, _, h2, _⟩ := hcell i (by omega)
    rw [List.getElem?_eq_getElem hin] at h2
    rw [Option.some.inj h2]
end
end Go.Proofs.YtckkibmehjlgaaaGreatDoor

set_option maxRecDepth 100000
namespace Go.Proofs.YtckkibmehjlgaaaGreatDoor
open Go.ChangeShapes Go.WideShapes Go.ChangeAt Go.RowKit

section
variable {H : Type} {enc : TypeId × Value → H} {W : World} {r : Reach} {base b : Nat} {sp : Nat → Bool} {held : Bool} {t : TypeId} {n : Nat} {v : Value} {d : DataW H} {p : List MemPlace}
theorem open_bits (hok : Value.okWide Tryz.prog W r base 24 v) (h : DataW.Trod enc Tryz.prog W b sp held 24 v d p) : ∃ A, A < 2 ^ 256 ∧ v = A4 A ∧ p = [] := by
  obtain ⟨x, hx, rfl, hp⟩ := open_words Tryz.underlying24 (by kernel_rfl) hok h
  obtain ⟨A, hA, he, _⟩ := words_A4 hx
  exact ⟨A, hA, he, hp⟩
theorem bits_stay {W' : World} {sp' : Nat → Bool} (h : DataW.Trod enc Tryz.prog W 0 (fun _ => true) true 24 v d []) : DataW.Trod enc Tryz.prog W' 0 sp' true 24 v d [] :=
  WideElems.Trod_stays Tryz.laidOut (by kernel_rfl) (of_decide_eq_true (by kernel_rfl)) h (by simp) (by simp)
end
end Go.Proofs.YtckkibmehjlgaaaGreatDoor

namespace Go.Proofs.YtckkibmehjlgaaaGreatDoor
open Go.ChangeShapes Go.WideShapes Go.ChangeAt Go.RowKit

/-- Go's tables, as cells -/
def firstCells : Array Value := (((List.replicate 128 240 ++ List.replicate 66 241 ++ List.replicate 30 2 ++ [19] ++ List.replicate 12 3 ++ [35] ++ List.replicate 2 3 ++ [52] ++ List.replicate 3 4 ++ [68] ++ List.replicate 11 241 : List Int)).map fun n => Value.int .u8 n).toArray
def rangeCells : Array Value := ((([128, 191, 160, 191, 128, 159, 144, 191, 128, 143] ++ List.replicate 22 0 : List Int)).map fun n => Value.int .u8 n).toArray
def db32Cells : Array Value := (([0, 1, 28, 2, 29, 14, 24, 3, 30, 22, 20, 15, 25, 17, 4, 8, 31, 27, 13, 23, 21, 19, 16, 7, 26, 12, 18, 6, 11, 5, 10, 9] : List Int).map fun n => Value.int .u8 n).toArray
def db64Cells : Array Value := ((([0, 1, 56, 2, 57, 49, 28, 3, 61, 58, 42, 50, 38, 29, 17, 4, 62, 47, 59, 36, 45, 43, 51, 22, 53, 39, 33, 30, 24, 18, 12, 5] ++ [63, 55, 48, 27, 60, 41, 37, 16, 46, 35, 44, 21, 52, 32, 23, 11, 54, 26, 40, 15, 34, 20, 31, 10, 25, 14, 19, 9, 13, 8, 7, 6] : List Int)).map fun n => Value.int .u8 n).toArray
def pow10Cells : Array Value := ((List.range 20).map fun k => Value.int .u64 ((10 ^ k : Nat) : Int)).toArray
noncomputable def laidWorld8 (os : Os) : World :=
  { World.holding Tryz.prog os ⟨#[], #[], []⟩ with heap := ((((((World.holding Tryz.prog os ⟨#[], #[], []⟩).heap.modify 0 (layCells tabCells)).modify 3 (layCells pow10Cells)).modify 4 (layCells db32Cells)).modify 5 (layCells db64Cells)).modify 6 (layCells firstCells)).modify 7 (layCells rangeCells) }
theorem laid_tail {P : Program} {W : World} {x : String × DataW Unit} {r : List (String × DataW Unit)} (h : laidMet P (x :: r) W) : laidMet P r W := by
  obtain ⟨ps, ⟨g, t, cs, fuel, p, q, _, _, _, _, hr, rfl⟩, hn, hc⟩ := h
  refine ⟨q, hr, ?_, fun b off hm => hc b off (by simp [hm])⟩
  exact (List.nodup_append.1 hn).2.1
theorem pw10_of_list {W : World} {x y : String × DataW Unit} {r : List (String × DataW Unit)} (h : laidMet Tryz.prog (x :: y :: ("internal/strconv.uint64pow10", Lib.tabData .u64 Lib.pow10Tab) :: r) W) : Tb10 W :=
  Lib.tabIs_of_head (P := Tryz.prog) (name := "internal/strconv.uint64pow10") (k := .u64) (zs := Lib.pow10Tab) (g := 3) (t := 210) (e := 22) (n := 20) (by kernel_rfl) (by kernel_rfl) (by kernel_rfl) (by kernel_rfl) (by kernel_rfl) (by kernel_rfl) (laid_tail (laid_tail h))
theorem tab_of_list {W : World} {x0 x1 x2 x3 : String × DataW Unit} {r : List (String × DataW Unit)} (h : laidMet Tryz.prog (x0 :: x1 :: x2 :: x3 :: ("caliper/desc.rows", Rows.laid_caliper_desc_rows) :: r) W) : Tab W :=
  tab_of_laid (laid_tail (laid_tail (laid_tail (laid_tail h))))
section
variable {H : Type} {enc : TypeId × Value → H} {W : World} {r : Reach} {base b : Nat} {sp : Nat → Bool} {held : Bool} {t : TypeId} {n : Nat} {v : Value} {d : DataW H} {p : List MemPlace}
end
end Go.Proofs.YtckkibmehjlgaaaGreatDoor
