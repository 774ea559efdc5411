/-
  The document's Exponent, of ten digits and of more.
-/
import Derived.Test.YtgjdhfmpemionaaDoorGc
set_option linter.unusedVariables false
set_option linter.unusedSimpArgs false
namespace Go.Proofs.YtgjdhfmpemionaaDoor
open Go.RowKit

theorem less_1 (Y Z : List UInt8) : Op.bytesLess (49 :: Y) (50 :: Z) = true := by simp [Op.bytesLess]
theorem less_0 : ∀ (Y : List UInt8) (n : Nat), Y.all dg = true → Y.length = n → Op.bytesLess Y (List.replicate n 48) = false
  | [], n, _, h => by simp at h; subst h; rfl
  | c :: r, n, ha, h => by
    obtain ⟨m, rfl⟩ : ∃ m, n = m + 1 := ⟨r.length, by rw [← h]; rfl⟩
    rw [List.all_cons, Bool.and_eq_true] at ha
    have ih := less_0 r m ha.2 (by simpa using h)
    have hc := ha.1
    unfold dg at hc
    simp at hc
    rw [List.replicate_succ]
    unfold Op.bytesLess
    have h1 : ¬ c < 48 := by rw [UInt8.lt_iff_toNat_lt]; simp; omega
    simp [h1, ih]
theorem less_2 {c : UInt8} {Y : List UInt8} (hc : 50 ≤ c.toNat) (ha : Y.all dg = true) (hl : Y.length = 9) : Op.bytesLess (c :: Y) [50, 48, 48, 48, 48, 48, 48, 48, 48, 48] = false := by
  have ih := less_0 Y 9 ha hl
  unfold Op.bytesLess
  have h1 : ¬ c < 50 := by rw [UInt8.lt_iff_toNat_lt]; simp; omega
  simp [h1]
  exact fun _ => ih
theorem B_drop (l : List UInt8) (k : Nat) : (B l).extract k (B l).size = B (l.drop k) := by
  rw [B_ext, B_size, List.take_length]
/-- the document's number of an exponent's digits -/
theorem ten_one {d : UInt8} {Y : List UInt8} : nv (49 :: d :: Y) = (10 + ((d.toNat : Int) - 48)) * 10 ^ Y.length + nv Y := by
  rw [show 49 :: d :: Y = [49, d] ++ Y from rfl, nv_app]
  congr 2
theorem ten_big {c : UInt8} {Y : List UInt8} (ha : (c :: Y).all dg = true) : nv (c :: Y) = ((c.toNat : Int) - 48) * 10 ^ Y.length + nv Y := by
  rw [show c :: Y = [c] ++ Y from rfl, nv_app, nv_one]
theorem isd_all {l : List UInt8} (h : isd l = true) : l.all dg = true := by
  unfold isd at h; simp only [Bool.and_eq_true] at h; exact h.1
def rnv (X : List UInt8) : Int := if X.length ≤ 9 then nv X else if X.length = 10 ∧ Op.bytesLess X [50, 48, 48, 48, 48, 48, 48, 48, 48, 48] = true then nv X else 2000000000
set_option maxHeartbeats 1000000 in
theorem rexp_far (l : List UInt8) (w : World) (hs : l.length < 4294967290) (hi : isd (sgR l) = true) (h9 : 10 ≤ (bar (sgR l)).length) (hn : (bar (sgR l)).length = 10 → Op.bytesLess (bar (sgR l)) [50, 48, 48, 48, 48, 48, 48, 48, 48, 48] = false) :
    Calls Tryd.prog 22 #[.string (B l)] w fun e w' => e = .returned (.tuple #[.int .i64 (if sgB l then - 2000000000 else 2000000000), .bool true]) ∧ Below w.heap.size w w' := by
  have c19 := fun w => sign_any l w (by omega)
  have hsl := sgR_le l
  have hbl := bar_le (sgR l)
  have c34 := fun w => isd_any (sgR l) w (by omega)
  rw [hi] at c34
  have c23 := fun w => bare_any (sgR l) w (by omega)
  generalize bar (sgR l) = X at *
  have hsz := B_size X
  have htl := B_toList
  have h9i : (10 : Int) ≤ X.length := by omega
  generalize sgB l = z at *
  by_cases h10 : X.length = 10
  · replace hn := hn h10
    cases z
    all_goals
      go_enter Tryd.func22, Tryd.ntmps22
      go_wp2_with (first
        | (go_at_call 19; refine (c19 _).mono ?_; rintro x w1 ⟨rfl, hb1⟩)
        | (go_at_call 34; refine (c34 _).mono ?_; rintro x w2 ⟨rfl, hb2⟩)
        | (go_at_call 23; refine (c23 _).mono ?_; rintro x w3 ⟨rfl, hb3⟩))
      go_ret2
      exact ⟨rfl, bnext (bnext hb1 hb2) hb3⟩
  · have h10i : ((X.length : Int) == 10) = false := by rw [beq_eq_false_iff_ne]; omega
    clear hn
    cases z
    all_goals
      go_enter Tryd.func22, Tryd.ntmps22
      go_wp2_with (first
        | (go_at_call 19; refine (c19 _).mono ?_; rintro x w1 ⟨rfl, hb1⟩)
        | (go_at_call 34; refine (c34 _).mono ?_; rintro x w2 ⟨rfl, hb2⟩)
        | (go_at_call 23; refine (c23 _).mono ?_; rintro x w3 ⟨rfl, hb3⟩))
      go_ret2
      exact ⟨rfl, bnext (bnext hb1 hb2) hb3⟩
set_option maxHeartbeats 1000000 in
theorem rexp_10 (l : List UInt8) (w : World) (hs : l.length < 4294967290) (hi : isd (sgR l) = true) (d : UInt8) (Y : List UInt8) (h9 : bar (sgR l) = 49 :: d :: Y) (hY : Y.length = 8) :
    Calls Tryd.prog 22 #[.string (B l)] w fun e w' => e = .returned (.tuple #[.int .i64 (if sgB l then - nv (bar (sgR l)) else nv (bar (sgR l))), .bool true]) ∧ Below w.heap.size w w' := by
  have c19 := fun w => sign_any l w (by omega)
  have hsl := sgR_le l
  have c34 := fun w => isd_any (sgR l) w (by omega)
  rw [hi] at c34
  have c23 := fun w => bare_any (sgR l) w (by omega)
  have hd : (bar (sgR l)).all dg = true := bar_all (isd_all hi)
  rw [h9] at c23 hd ⊢
  rw [List.all_cons, List.all_cons, Bool.and_eq_true, Bool.and_eq_true] at hd
  have hdd := hd.2.1
  unfold dg at hdd
  simp at hdd
  have c35 := fun w => tail_any Y w (by omega) hd.2.2
  have hyb := nv_nn hd.2.2
  rw [hY, show (10 : Int) ^ 8 = 100000000 by decide] at hyb
  have HV : Hid (nv (49 :: d :: Y) = 1000000000 + ((d.toNat : Int) - 48) * 100000000 + nv Y) := by
    show _ = _
    rw [ten_one, hY, show (10 : Int) ^ 8 = 100000000 by decide]; omega
  rw [HV.out]
  have hls := less_1 (d :: Y) [48, 48, 48, 48, 48, 48, 48, 48, 48]
  have hsz := B_size (49 :: d :: Y)
  rw [show (49 :: d :: Y).length = 10 by simp; omega] at hsz
  have hsb := by_lt (l := 49 :: d :: Y) (i := 1) (by rw [hsz]; decide)
  rw [by_succ, by_zero] at hsb
  have hbt := B_drop (49 :: d :: Y) 2
  rw [hsz] at hbt
  simp only [List.drop_succ_cons, List.drop_zero] at hbt
  have htl := B_toList
  clear hd h9
  generalize sgB l = z at *
  generalize nv Y = V at *
  cases z
  all_goals
    go_enter Tryd.func22, Tryd.ntmps22
    go_wp2_with (first
      | (go_at_call 19; refine (c19 _).mono ?_; rintro x w1 ⟨rfl, hb1⟩)
      | (go_at_call 34; refine (c34 _).mono ?_; rintro x w2 ⟨rfl, hb2⟩)
      | (go_at_call 23; refine (c23 _).mono ?_; rintro x w3 ⟨rfl, hb3⟩))
    go_quiet ((go_at_call 35; exact Calls.quiet_of_same (c35 _)))
    go_wp2
    go_ret2
    exact ⟨rfl, bnext (bnext hb1 hb2) (below_drewN hb3)⟩
/-- behind the e: is it an exponent, and which -/
theorem vc_far {X : List UInt8} {v : Int} (h : nv X = v) (h2 : 2000000000 ≤ v) : min v 2000000000 = 2000000000 := by omega
theorem pow10_ge {n : Nat} (h : 10 ≤ n) : (10000000000 : Int) ≤ 10 ^ n := by
  have := Nat.pow_le_pow_right (show 0 < 10 by decide) h
  have e : ((10 ^ 10 : Nat) : Int) ≤ ((10 ^ n : Nat) : Int) := by exact_mod_cast this
  simpa using e
theorem rexp_any (l : List UInt8) (w : World) (hs : l.length < 4294967290) :
    Calls Tryd.prog 22 #[.string (B l)] w fun e w' => e = .returned (.tuple #[.int .i64 (if isd (sgR l) then exS l else 0), .bool (isd (sgR l))]) ∧ Below w.heap.size w w' := by
  by_cases hi : isd (sgR l) = true
  · rw [if_pos hi, hi]
    have ha := isd_all hi
    have hab := bar_all ha
    have hv := nv_bar (sgR l)
    unfold exS vc
    rw [← hv]
    by_cases h9 : (bar (sgR l)).length ≤ 9
    · have c := rexp_9 l w hs hi h9
      have hb := nv_nn hab
      have hp : (10 : Int) ^ (bar (sgR l)).length ≤ 10 ^ 9 := by
        have := Nat.pow_le_pow_right (show 0 < 10 by decide) h9
        exact_mod_cast this
      rw [show (10 : Int) ^ 9 = 1000000000 by decide] at hp
      rw [show min (nv (bar (sgR l))) 2000000000 = nv (bar (sgR l)) by omega]
      exact c
    · by_cases hL : (bar (sgR l)).length = 10 ∧ ∃ Y, bar (sgR l) = 49 :: Y
      · obtain ⟨h10, Y, hY⟩ := hL
        cases Y with
        | nil => rw [hY] at h10; simp at h10
        | cons d Y =>
          have hYl : Y.length = 8 := by rw [hY] at h10; simpa using h10
          have c := rexp_10 l w hs hi d Y hY hYl
          have hb : nv (bar (sgR l)) < 2000000000 := by
            rw [hY, ten_one, hYl]
            rw [hY] at hab
            rw [List.all_cons, List.all_cons, Bool.and_eq_true, Bool.and_eq_true] at hab
            have h2 := nv_nn hab.2.2
            rw [hYl] at h2
            have h3 := hab.2.1
            unfold dg at h3; simp at h3
            rw [show (10 : Int) ^ 8 = 100000000 by decide] at h2 ⊢
            omega
          rw [show min (nv (bar (sgR l))) 2000000000 = nv (bar (sgR l)) by omega]
          exact c
      · have h10 : 10 ≤ (bar (sgR l)).length := by omega
        have key : 2000000000 ≤ nv (bar (sgR l)) ∧ ((bar (sgR l)).length = 10 → Op.bytesLess (bar (sgR l)) [50, 48, 48, 48, 48, 48, 48, 48, 48, 48] = false) := by
          have hh := @bar_head (sgR l)
          generalize bar (sgR l) = X at *
          cases X with
          | nil => simp at h10
          | cons c Y =>
            have h1 := hh rfl
            have hab' := hab
            rw [List.all_cons, Bool.and_eq_true] at hab
            have h2 := nv_nn hab.2
            have h3 := hab.1
            unfold dg at h3; simp at h3
            rw [ten_big hab']
            have hY9 : 9 ≤ Y.length := by simpa using h10
            by_cases hn : c.toNat = 49
            · have hc : c = 49 := UInt8.toNat_inj.1 (by simpa using hn)
              have hY10 : 10 ≤ Y.length := by
                rcases Nat.lt_or_ge Y.length 10 with h | h
                · exact absurd ⟨by simp; omega, Y, by rw [hc]⟩ hL
                · exact h
              have hp := pow10_ge hY10
              refine ⟨?_, fun h => by simp at h; omega⟩
              rw [hn]
              omega
            · have h50 : 50 ≤ c.toNat := by omega
              refine ⟨?_, fun h => less_2 h50 hab.2 (by simpa using h)⟩
              have hp : (1000000000 : Int) ≤ 10 ^ Y.length := by
                have := Nat.pow_le_pow_right (show 0 < 10 by decide) hY9
                have e : ((10 ^ 9 : Nat) : Int) ≤ ((10 ^ Y.length : Nat) : Int) := by exact_mod_cast this
                simpa using e
              have : (2 : Int) * 10 ^ Y.length ≤ ((c.toNat : Int) - 48) * 10 ^ Y.length := Int.mul_le_mul_of_nonneg_right (by omega) (by omega)
              omega
        have c := rexp_far l w hs hi h10 key.2
        rw [show min (nv (bar (sgR l))) 2000000000 = 2000000000 by have := key.1; omega]
        exact c
  · rw [if_neg hi, show isd (sgR l) = false by simpa using hi]
    exact rexp_no l w hs (by simpa using hi)
end Go.Proofs.YtgjdhfmpemionaaDoor
