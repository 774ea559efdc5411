/-
  Texts that the proof leans on, joined: Xf.
-/
import Derived.Test.YtecoajeejombbaaGreatDoorJ41
import Derived.Test.YtecoajeejombbaaGreatDoorJ43
set_option linter.unusedVariables false
set_option linter.unusedSectionVars false
set_option linter.unusedSimpArgs false
set_option maxRecDepth 20000
namespace Go.Proofs.YtecoajeejombbaaGreatDoor
open Go.RowKit

theorem cut_dlen {l : List UInt8} {p : Prt} (h : cutP l = some p) : p.dig.length ≤ 8000 := by
  unfold cutP at h
  split at h
  · cases h
  · rename_i hl
    have hs := sgR_le l
    unfold bodP at h
    split at h
    · cases h
      show (finD (sgR l)).length ≤ 8000
      unfold finD
      have h1 := bar_le (dgs (sgR l) ++ frac (sgR l))
      have h2 := dgs_le (sgR l)
      have h3 := frac_le (sgR l)
      rw [List.length_append] at h1
      omega
    · split at h
      · cases h
        exact Nat.zero_le _
      · split at h
        · cases h
          show (bar (paD (nanR (sml (sgR l))))).length ≤ 8000
          have h1 := bar_le (paD (nanR (sml (sgR l))))
          have h2 : (paD (nanR (sml (sgR l)))).length ≤ (nanR (sml (sgR l))).length := by
            unfold paD
            split
            · exact Nat.le_trans (dgs_le _) (trimPre_le _ _)
            · exact Nat.zero_le _
          have h3 : (nanR (sml (sgR l))).length ≤ (sml (sgR l)).length := by
            unfold nanR
            exact Nat.le_trans (trimPre_le _ _) (trimPre_le _ _)
          rw [sml_len] at h3
          omega
        · cases h
/-- a number without noughts ahead -/
theorem dV_ge {l : List UInt8} (hd : l.all dg = true) (h0 : by_ l 0 ≠ 48) (hl : l ≠ []) : 10 ^ (l.length - 1) ≤ dV l := by
  cases l with
  | nil => exact absurd rfl hl
  | cons c r =>
    have hr : r.all dg = true := by rw [List.all_cons] at hd; simp at hd; simpa using hd.2
    have hc : dg c = true := by rw [List.all_cons] at hd; simp at hd; exact hd.1
    unfold dg at hc
    have hc' := of_decide_eq_true hc
    rw [by_zero] at h0
    have h := numV_app (s := B (c :: r)) (u := B r) 1 (B r).size (fun i hi => by rw [sb_by, sb_by, Nat.add_comm, by_succ])
    have hs : (B (c :: r)).size = 1 + (B r).size := by rw [B_size, B_size, List.length_cons]; omega
    have h1 : numV (B (c :: r)) 1 = (c.toNat : Int) - 48 := by
      have : numV (B (c :: r)) 1 = numV (B (c :: r)) 0 * 10 + (sb (B (c :: r)) 0 - 48) := rfl
      rw [this, sb_by, by_zero]
      have : numV (B (c :: r)) 0 = 0 := rfl
      omega
    have hb := (numV_bd _ (dig_B hr)).1
    have e := (dV_lt hd).2
    rw [hs, h, h1] at e
    rw [B_size] at e hb
    have hp : ((10 : Int) ^ r.length) = ((10 ^ r.length : Nat) : Int) := by simp
    rw [hp] at e
    show 10 ^ (r.length + 1 - 1) ≤ _
    rw [Nat.add_sub_cancel]
    have hm : 1 * ((10 ^ r.length : Nat) : Int) ≤ ((c.toNat : Int) - 48) * ((10 ^ r.length : Nat) : Int) := Int.mul_le_mul_of_nonneg_right (by omega) (Int.natCast_nonneg _)
    omega
theorem bin_true {n : Int} (hb : binN n) (W : World) : Calls Tryz.prog 22 #[.int .i64 n] W fun r w' => r = .returned (.bool true) ∧ W = w' := by
  have := rbinary_any n W
  rw [decide_eq_true hb] at this
  exact this.mono fun _ _ ⟨h1, h2⟩ => ⟨h1, h2.symm⟩
theorem dir_true {d : Int} (hk : knB d) (W : World) : Calls Tryz.prog 15 #[.int .i64 d] W fun r w' => r = .returned (.bool true) ∧ W = w' := by
  have := rdir_any d W
  rw [decide_eq_true hk] at this
  exact this
theorem pl_isD {f : Nat} {l m : Int} (s g : Bool) (A : Nat) (hf : 2 ≤ f) : isD f l m ⟨3, s, g, 0, plV f g A⟩ := by
  refine Or.inr (Or.inr ⟨rfl, rfl, ?_, ?_⟩)
  · show plV f g A < 2 ^ (f - 1)
    have h : plA f A < 2 ^ (f - 1) := by
      unfold plA
      split
      · exact Nat.two_pow_pos _
      · rename_i h
        exact bl_le.1 (by omega)
    unfold plV
    split
    · exact Nat.one_lt_two_pow (by omega)
    · exact h
  · show plV f g A ≠ 0 ∨ g = false
    cases g
    · exact Or.inr rfl
    · left
      unfold plV
      split
      · decide
      · rename_i h
        intro h2
        exact h ⟨rfl, h2⟩
theorem fN_ge {n : Int} (hb : binN n) : 2 ≤ fN n := by
  rcases bin_cases hb with rfl | rfl | rfl | rfl | rfl | rfl <;> decide
/-- readbin.Make and the document's -/
theorem makes_same (n d : Int) (p : Prt) (hl : p.dig.length < 100000) (he : -9223372036854775808 ≤ p.ex ∧ p.ex ≤ 9223372036854775807) :
    ∃ V F E, (∀ W, Tab W → Tb10 W → Calls Tryz.prog 12 #[.int .i64 n, .int .i64 d, p.v] W fun r w' => r = .returned (.tuple #[A4 V, .int .i64 F, .int .i64 E]) ∧ Below W.heap.size W w') ∧
      (∀ W, Tb10 W → Calls Tryz.prog 13 #[.int .i64 n, .int .i64 d, p.v] W fun r w' => r = .returned (.tuple #[A4 V, .int .i64 F, .int .i64 E]) ∧ Below W.heap.size W w') := by
  by_cases hg : binN n ∧ knB d
  · have hb := hg.1
    have hk := hg.2
    have c28 := fun W (hT : Tab W) => rck_good n d W hT hg
    have c22 := fun W => bin_true hb W
    have c15 := fun W => dir_true hk W
    have c25 := fun W => rof_bin hb W
    by_cases hj : jnP p
    · have hgd := gd_of_jn hj
      have hl4 := hj.1
      obtain ⟨hdD, hcls⟩ := id hgd
      have hall := gdD_all hdD
      obtain ⟨fl1, fl2, fl3, fl4, fl5⟩ := fld_bd hb
      have hf2 := fN_ge hb
      rcases hcls with ⟨hc, hsn, hx, _⟩ | ⟨hc, hsn, hd0, hx0⟩ | ⟨hc, hx0, _⟩
      · refine ⟨rdV n d p.sg (tN (dV p.dig) (pwE p.dig.length p.ex)) (tD (pwE p.dig.length p.ex)) (pwE p.dig.length p.ex), rdF n d p.sg (tN (dV p.dig) (pwE p.dig.length p.ex)) (tD (pwE p.dig.length p.ex)) (pwE p.dig.length p.ex), 0, fun W hT hT10 => ?_, fun W hT10 => ?_⟩
        · exact make_1 n d p.cls p.sg p.sn p.dig p.ex _ _ _ _ _ _ _ W hT c28 (fun W' hW' => join_y p W' (hT10.next hW') he hj) hc _ _ _ (fun W' hT' => finite8 n d 1 p.sg p.sn p.dig p.ex W' hT' hb hk hall hl4)
        · have c35 := fun W' (hW' : Below W.heap.size W W') => good_y p W' hl he (hT10.next hW') hgd
          have c38 := fun W' => number8 p.dig W' hall hl4
          by_cases hnil : p.dig = []
          · have hA : dV p.dig = 0 := by rw [hnil]; rfl
            have hN : tN (dV p.dig) (pwE p.dig.length p.ex) = 0 := by unfold tN; rw [hA, Nat.zero_mul]
            have hdo := do_eq d p.sg 0 0 hb (D := 1) (by decide) (by decide) (by decide)
            have e1 : rdV n d p.sg (tN (dV p.dig) (pwE p.dig.length p.ex)) (tD (pwE p.dig.length p.ex)) (pwE p.dig.length p.ex) = doV n d p.sg 0 1 0 := by
              rw [hdo.1, hN]; unfold rdV; rw [if_pos rfl, if_pos rfl]
            have e2 : rdF n d p.sg (tN (dV p.dig) (pwE p.dig.length p.ex)) (tD (pwE p.dig.length p.ex)) (pwE p.dig.length p.ex) = doF n d p.sg 0 1 0 := by
              rw [hdo.2, hN]; unfold rdF; rw [if_pos rfl, if_pos rfl]
            rw [e1, e2]
            refine rmk_1z n d p.cls p.sg p.sn p.dig p.ex _ _ _ _ _ _ W c22 c15 c35 c25 hc _ _ (fun W' => (c38 W').mono fun r w' ⟨v, g1, g2, g3⟩ => ?_) (fun W' v v' h1 h2 => round_v n d 0 p.sg (h1.more (by decide)) (h2.more (by decide)) hb hk (by decide) (by decide) (by decide))
            rw [hA] at g2
            obtain ⟨gv, kv, cv, rfl, _, hzz⟩ := g2.zero
            obtain rfl := hzz.2 rfl
            exact ⟨gv, cv, g1, g2, g3⟩
          · have h48 : by_ p.dig 0 ≠ 48 := by
              rcases hdD with h | ⟨_, h⟩
              · exact absurd h hnil
              · exact h
            have hlen : 1 ≤ p.dig.length := List.length_pos_iff.2 hnil
            have hge := dV_ge hall h48 hnil
            have hlt := (dV_lt hall).1
            have hA0 : dV p.dig ≠ 0 := by have := Nat.pow_pos (n := p.dig.length - 1) (show 0 < 10 by decide); omega
            have hteq := ten_eq d p.sg hb ⟨hlen, hl4⟩ hge hlt p.ex
            have htsh := ten_shift n d p.sg (dV p.dig) (dwE p.ex)
            have hdw : -12000 ≤ dwE p.ex ∧ dwE p.ex ≤ 12000 := by unfold dwE; omega
            have hbA : bl (dV p.dig) ≤ 16000 := bl_10 hlt (by omega)
            have b1 := bl_mul (dV p.dig) (10 ^ (dwE p.ex).toNat)
            have b2 := ten_bl (dwE p.ex).toNat
            have b3 := ten_bl (-(dwE p.ex)).toNat
            have hD0 : 10 ^ (-(dwE p.ex)).toNat ≠ 0 := Nat.pos_iff_ne_zero.1 (Nat.pow_pos (by decide))
            have hdo := do_eq d p.sg (dV p.dig * 10 ^ (dwE p.ex).toNat) 0 hb hD0 (by omega) (by omega)
            rw [hteq.1, hteq.2, ← htsh.1, ← htsh.2, ← hdo.1, ← hdo.2]
            refine rmk_1 n d p.cls p.sg p.sn p.dig p.ex _ _ _ _ _ _ W c22 c15 c35 c25 hc (dV p.dig) (dV p.dig * 10 ^ (dwE p.ex).toNat) (10 ^ (-(dwE p.ex)).toNat) _ _ (fun W' => (c38 W').mono fun r w' ⟨v, g1, g2, g3⟩ => ?_) (fun W' v v' k hk' h1 h2 => ?_) (fun W' v v' h1 h2 => round_v n d 0 p.sg h1 h2 hb hk hD0 (by omega) (by omega))
            · obtain ⟨gv, kv, cv, rfl, _, hzz⟩ := g2.zero
              refine ⟨gv, kv, cv, g1, ?_, g2, g3⟩
              have : kv ≠ 0 := fun h => hA0 (hzz.1 h)
              omega
            · have hkd : k = dwE p.ex := hk'
              subst hkd
              have := rscale10 (dwE p.ex) hdw h1 h2 (by omega) (by decide)
              rw [Nat.one_mul] at this
              exact this
      · have hi : isD (fN n) (leastN n) (mostN n) ⟨2, p.sg, false, 0, 0⟩ := Or.inr (Or.inl ⟨rfl, rfl, rfl, rfl⟩)
        have hE : pkE n ⟨2, p.sg, false, 0, 0⟩ = 0 := by unfold pkE; rw [if_pos hb, if_pos hi]
        have c34 := fun W hT => pack_any n ⟨2, p.sg, false, 0, 0⟩ W hT (show 0 < 2 ^ 256 by decide)
        have c36 := fun W => rpack_any n ⟨2, p.sg, false, 0, 0⟩ W (show 0 < 2 ^ 256 by decide)
        rw [show (Dat.v ⟨2, p.sg, false, 0, 0⟩) = _ from DV_zero 2 p.sg false 0, hE] at c34 c36
        refine ⟨pkV n ⟨2, p.sg, false, 0, 0⟩, 0, 0, fun W hT hT10 => ?_, fun W hT10 => ?_⟩
        · exact make_2 n d p.cls p.sg p.sn p.dig p.ex _ _ _ _ _ _ _ W hT c28 (fun W' hW' => join_y p W' (hT10.next hW') he hj) hc _ _ (by rw [hsn]; exact c34)
        · exact rmk_2 n d p.cls p.sg p.sn p.dig p.ex _ _ _ _ _ _ W c22 c15 (fun W' hW' => good_y p W' hl he (hT10.next hW') hgd) c25 hc _ _ c36
      · have hi := pl_isD (l := leastN n) (m := mostN n) p.sg p.sn (dV p.dig) hf2
        have hE : pkE n ⟨3, p.sg, p.sn, 0, plV (fN n) p.sn (dV p.dig)⟩ = 0 := by unfold pkE; rw [if_pos hb, if_pos hi]
        have hlt := plV_lt (f := fN n) (A := dV p.dig) p.sn fl4
        have c34 := fun W hT => pack_any n ⟨3, p.sg, p.sn, 0, plV (fN n) p.sn (dV p.dig)⟩ W hT hlt
        have c36 := fun W => rpack_any n ⟨3, p.sg, p.sn, 0, plV (fN n) p.sn (dV p.dig)⟩ W hlt
        rw [hE] at c34 c36
        refine ⟨pkV n ⟨3, p.sg, p.sn, 0, plV (fN n) p.sn (dV p.dig)⟩, 0, 0, fun W hT hT10 => ?_, fun W hT10 => ?_⟩
        · exact make_3 n d p.cls p.sg p.sn p.dig p.ex _ _ _ _ _ _ _ W hT c28 (fun W' hW' => join_y p W' (hT10.next hW') he hj) hc _ _ _ (fun W' => payload8 _ _ _ _ _ _ _ 3 p.sg p.sn p.dig p.ex W' fl4 hall hl4) c34
        · refine rmk_3 n d p.cls p.sg p.sn p.dig p.ex _ _ _ _ _ _ W c22 c15 (fun W' hW' => good_y p W' hl he (hT10.next hW') hgd) c25 hc 50000 _ (2 ^ (fN n - 1)) _ _ (fun W' => ?_) (fun W' v hv => rpayload8 3 p.sg p.sn p.dig p.ex (fN n) 50000 v W' (by decide) ⟨fl4, fl5⟩ hall hl4 hv) c36
          have := rpow_nv (fN n - 1) W' (by omega)
          rw [show (((fN n - 1 : Nat)) : Int) = (fN n : Int) - 1 by omega] at this
          exact this
    · have hngd : ¬ gdP p := fun h => hj (jn_of_gd h)
      refine ⟨0, 0, 2, fun W hT hT10 => ?_, fun W hT10 => ?_⟩
      · rw [A4_zero]
        exact make_j n d p.cls p.sg p.sn p.dig p.ex [] _ _ _ _ _ _ W hT c28 1 (by decide) (fun W' hW' => join_n p W' (hT10.next hW') he hj)
      · rw [A4_zero]
        exact rmk_j n d p.cls p.sg p.sn p.dig p.ex W c22 c15 (fun W' hW' => good_n p W' hl he (hT10.next hW') hngd)
  · refine ⟨0, 0, 1, fun W hT hT10 => ?_, fun W hT10 => ?_⟩
    · rw [A4_zero]
      exact make_e n d p.cls p.sg p.sn p.dig p.ex W hT 1 (by decide) (fun W' hT' => rck_bad n d W' hT' hg)
    · rw [A4_zero]
      by_cases hb : binN n
      · refine rmk_d n d p.cls p.sg p.sn p.dig p.ex W (fun W' => bin_true hb W') (fun W' => ?_)
        have := rdir_any d W'
        rw [decide_eq_false (fun hk => hg ⟨hb, hk⟩)] at this
        exact this
      · refine rmk_n n d p.cls p.sg p.sn p.dig p.ex W (fun W' => ?_)
        have := rbinary_any n W'
        rw [decide_eq_false hb] at this
        exact this
end Go.Proofs.YtecoajeejombbaaGreatDoor
