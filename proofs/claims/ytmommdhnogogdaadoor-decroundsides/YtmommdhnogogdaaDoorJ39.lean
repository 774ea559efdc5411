/-
  Texts that the proof leans on, joined: Ek.
-/
import Derived.Test.YtmommdhnogogdaaDoorJ38
import Derived.Test.YtmommdhnogogdaaDoorJ33
set_option linter.unusedVariables false
set_option linter.unusedSectionVars false
set_option linter.unusedSimpArgs false
set_option maxRecDepth 20000
namespace Go.Proofs.YtmommdhnogogdaaDoor
open Go.RowKit
theorem rqD_256 (n d : Int) (s : Bool) (N D : Nat) (x y : Int) : (rqD n d s N D x y).k < 2 ^ 256 := by
  have h256 := ten_256 (fD_ok n)
  unfold rqD
  by_cases hE : rqE n d N D = 0
  · obtain ⟨h1, h2, h3, h4, h5⟩ := rq_zero hE
    rw [if_pos hE]
    by_cases hN : N = 0
    · rw [if_pos hN]; show 0 < 2 ^ 256; decide
    · rw [if_neg hN]
      have hp : 0 < D * 10 ^ (-(clT x)).toNat := Nat.mul_pos (by omega) (ten_pos _)
      have hi := dkD_is (f := fD n) (fD_ok n) (d := d) (s := s) (want := y) hp (tnX_is (Nat.mul_pos (by omega : 0 < N) (ten_pos (clT x).toNat)) hp)
      rcases hi with ⟨_, _, a, _⟩ | ⟨_, _, a, _⟩ | ⟨_, _, a⟩
      · omega
      · rw [a]; decide
      · have : (10 : Nat) ^ (3 * (fD n).j) ≤ 10 ^ (3 * (fD n).j + 1) := Nat.pow_le_pow_right (by decide) (by omega)
        omega
  · rw [if_neg hE]; decide
theorem smD_5 {F : Nat → Int} : smD F 5 = (F 0).tdiv 8 + (F 1).tdiv 8 + (F 2).tdiv 8 + (F 3).tdiv 8 + (F 4).tdiv 8 := by
  show 0 + (F 0).tdiv 8 + (F 1).tdiv 8 + (F 2).tdiv 8 + (F 3).tdiv 8 + (F 4).tdiv 8 = _
  omega
theorem tdiv8_1 {f : Int} (h : 8 ≤ f ∧ f ≤ 12) : f.tdiv 8 = 1 := by
  rw [Int.tdiv_eq_ediv_of_nonneg (by omega)]; omega
theorem sides15_v {TT : World → Prop} (h : DrdC TT) (n x : Int) (s : Bool) (an ad : Option Addr) (kn cn kd cd : Nat) (zn zd' : Nat → Int) (w : World) (hT : TT w) (i1 : i6 n) (i3 : i6 x) (hn : Num w an kn cn zn) (hd : Num w ad kd cd zd') :
    Calls Tryd.prog 4 #[.int .i64 n, .bool s, .slice an kn cn, .slice ad kd cd, .int .i64 x] w fun r w' => r = .returned (.bool true) ∧ Below w.heap.size w w' := by
  by_cases h1 : (60 : Int) < (kn : Int)
  · exact dsid_l1 TT h.next n x s an ad kn cn kd cd w hT h.awk h1
  by_cases h2 : (60 : Int) < (kd : Int)
  · exact dsid_l2 TT h.next n x s an ad kn cn kd cd w hT h.awk h1 h2
  have c5 := fun W => rdecimal_any n W
  by_cases hb : decN n
  · rw [decide_eq_true hb] at c5
    have hnN := num_Nt hn (show kn ≤ 2001 by omega)
    have hdN := num_Nt hd (show kd ≤ 2001 by omega)
    have s1 : Nt 100 (val zn kn).toNat (.slice an kn cn) w := nt_fit hnN (by omega)
    have s2 : Nt 100 (val zd' kd).toNat (.slice ad kd cd) w := nt_fit hdN (by omega)
    obtain ⟨sn, ⟨n1, n2, n3⟩, c19⟩ := rsize_nt (by decide) s1
    obtain ⟨sd, ⟨d1, d2, d3⟩, c19d⟩ := rsize_nt (by decide) s2
    have bN := (n3 100).1 n1
    have bD := (d3 100).1 d1
    by_cases hD : (val zd' kd).toNat = 0
    · have e : sd = 0 := d2.2 hD
      subst e
      exact dsid_z TT h.next n x s an ad kn cn kd cd w hT h.awk h1 h2 c5 c19d
    · have hsz : ((sd : Int) == 0) = false := by
        rw [beq_eq_false_iff_ne]
        intro e
        exact hD (d2.1 (by omega))
      obtain ⟨hE, V, F, h5, hVF⟩ := rq_five (s := s) (x := x) hb hD (show bl (val zn kn).toNat ≤ 25600 by omega) (by omega)
      have hkn : ∀ i : Nat, i < 5 → knB (i : Int) := fun i hi => by unfold knB; omega
      have c7 : ∀ (i : Nat) W, i < 5 → TT W → Below w.heap.size w W → Calls Tryd.prog 8 #[.int .i64 n, .int .i64 (i : Int), .bool s, .slice an kn cn, .slice ad kd cd, .int .i64 x, .int .i64 0] W fun r w' => r = .returned (.tuple #[((fun i : Nat => rqD n (i : Int) s (val zn kn).toNat (val zd' kd).toNat x 0) i).v, .int .i64 ((fun i : Nat => if i < 5 then F (i : Int) else 0) i), .int .i64 0]) ∧ Below W.heap.size W w' := fun i W hi hW hB => by
        have := h.dec n (i : Int) x 0 s _ _ _ _ W i1 (by unfold i6; omega) i3 (by unfold i6; omega) hW (hnN.next hB) (hdN.next hB)
        rw [hE _ (hkn i hi), (hVF _ (hkn i hi)).2] at this
        dsimp only
        rw [if_pos hi]
        exact this
      have hR : ∀ i : Nat, i < 5 → rqD n (i : Int) s (val zn kn).toNat (val zd' kd).toNat x 0 = V (i : Int) := fun i hi => (hVF _ (hkn i hi)).1
      have hk : ∀ i : Nat, (rqD n (i : Int) s (val zn kn).toNat (val zd' kd).toNat x 0).k < 2 ^ 256 := fun i => rqD_256 n i s _ _ x 0
      have k0 := hkn 0 (by decide)
      have k1 := hkn 1 (by decide)
      have k2 := hkn 2 (by decide)
      have k3 := hkn 3 (by decide)
      have k4 := hkn 4 (by decide)
      rcases h5 with ha | ⟨hf, b1, b2, b3, b4⟩
      · have hF : ∀ i : Nat, 0 ≤ (fun i : Nat => if i < 5 then F (i : Int) else 0) i ∧ (fun i : Nat => if i < 5 then F (i : Int) else 0) i ≤ 100 := fun i => by
          dsimp only
          split
          · rw [(ha _ (hkn i (by assumption))).1]; decide
          · decide
        have hs5 : smD (fun i : Nat => if i < 5 then F (i : Int) else 0) 5 = 0 := by
          rw [smD_5]
          show (F 0).tdiv 8 + (F 1).tdiv 8 + (F 2).tdiv 8 + (F 3).tdiv 8 + (F 4).tdiv 8 = 0
          rw [(ha 0 k0).1, (ha 1 k1).1, (ha 2 k2).1, (ha 3 k3).1, (ha 4 k4).1]; rfl
        have hX : (V 0).k < 2 ^ 256 := by have e := hk 0; rw [hR 0 (by decide)] at e; exact e
        have hall : ∀ i, i < 5 → (fun i : Nat => rqD n (i : Int) s (val zn kn).toNat (val zd' kd).toNat x 0) i = V 0 := fun i hi => (hR i hi).trans (ha _ (hkn i hi)).2
        cases hs : s
        · subst hs
          exact dsd_Af TT h.next n x false an ad kn cn kd cd w hT h.awk h1 h2 c5 sd hsz c19d _ _ hF hk c7 rfl (V 0) hX hall hs5
        · subst hs
          exact dsd_At TT h.next n x true an ad kn cn kd cd w hT h.awk h1 h2 c5 sd hsz c19d _ _ hF hk c7 rfl (V 0) hX hall hs5
      · have hF : ∀ i : Nat, 0 ≤ (fun i : Nat => if i < 5 then F (i : Int) else 0) i ∧ (fun i : Nat => if i < 5 then F (i : Int) else 0) i ≤ 100 := fun i => by
          dsimp only
          split
          · have := hf _ (hkn i (by assumption)); omega
          · decide
        have hs5 : smD (fun i : Nat => if i < 5 then F (i : Int) else 0) 5 = 5 := by
          rw [smD_5]
          show (F 0).tdiv 8 + (F 1).tdiv 8 + (F 2).tdiv 8 + (F 3).tdiv 8 + (F 4).tdiv 8 = 5
          rw [tdiv8_1 (hf 0 k0), tdiv8_1 (hf 1 k1), tdiv8_1 (hf 2 k2), tdiv8_1 (hf 3 k3), tdiv8_1 (hf 4 k4)]; rfl
        have r0 := hR 0 (by decide)
        have r1 := hR 1 (by decide)
        have r2 := hR 2 (by decide)
        have r3 := hR 3 (by decide)
        have r4 := hR 4 (by decide)
        cases hs : s
        · subst hs
          exact dsd_Bf TT h.next n x false an ad kn cn kd cd w hT h.awk h1 h2 c5 sd hsz c19d _ _ hF hk c7 rfl hs5 (by rw [r4, r3]; exact b1) (by rw [r2, r4]; exact b2) (by rw [r0, r4, r3]; exact b3) (by rw [r1, r4, r3]; exact b4)
        · subst hs
          exact dsd_Bt TT h.next n x true an ad kn cn kd cd w hT h.awk h1 h2 c5 sd hsz c19d _ _ hF hk c7 rfl hs5 (by rw [r3, r4]; exact b1) (by rw [r2, r3]; exact b2) (by rw [r0, r3, r4]; exact b3) (by rw [r1, r3, r4]; exact b4)
  · rw [decide_eq_false hb] at c5
    exact dsid_n TT h.next n x s an ad kn cn kd cd w hT h.awk h1 h2 c5
theorem decroundSides_any (n : Int) (s : Bool) (an : Option Addr) (kn cn : Nat) (zn : Nat → Int) (ad : Option Addr) (kd cd : Nat) (zd' : Nat → Int) (x : Int) (w : World) (hT : Tab w) (i1 : i6 n) (hn : Num w an kn cn zn) (hd : Num w ad kd cd zd') (i3 : i6 x) :
    Calls Tryd.prog 4 #[.int .i64 n, .bool s, .slice an kn cn, .slice ad kd cd, .int .i64 x] w fun r w' => r = .returned (.bool true) ∧ Below w.heap.size w w' :=
  sides15_v drdC n x s an ad kn cn kd cd zn zd' w hT i1 i3 hn hd
end Go.Proofs.YtmommdhnogogdaaDoor
