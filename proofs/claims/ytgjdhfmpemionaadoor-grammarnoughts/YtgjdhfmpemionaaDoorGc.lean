/-
  An exponent's text: contracts of the program's exponent and the document's Exponent.
-/
import Derived.Test.YtgjdhfmpemionaaDoorGb
set_option linter.unusedVariables false
set_option linter.unusedSimpArgs false
namespace Go.Proofs.YtgjdhfmpemionaaDoor
open Go.RowKit

theorem all_dgs (l : List UInt8) : (dgs l).all dg = true := List.all_takeWhile
theorem rst_nil {l : List UInt8} (h : rst l = []) : dgs l = l := by
  have := dgs_rst l; rw [h, List.append_nil] at this; exact this
theorem rst_of_all {l : List UInt8} (h : l.all dg = true) : rst l = [] ∧ dgs l = l := by
  have : dgs l = l := by
    induction l with
    | nil => rfl
    | cons c r ih =>
      rw [List.all_cons, Bool.and_eq_true] at h
      unfold dgs at ih ⊢
      rw [List.takeWhile_cons, if_pos h.1, ih h.2]
  refine ⟨?_, this⟩
  have e := dgs_rst l
  rw [this] at e
  simpa using e
theorem isd_iff (l : List UInt8) : isd l = true ↔ dgs l ≠ [] ∧ rst l = [] := by
  unfold isd
  simp only [Bool.and_eq_true, Bool.not_eq_true', List.isEmpty_eq_false_iff]
  constructor
  · rintro ⟨h1, h2⟩
    obtain ⟨a, b⟩ := rst_of_all h1
    exact ⟨by rw [b]; exact h2, a⟩
  · rintro ⟨h1, h2⟩
    have := rst_nil h2
    rw [this] at h1
    exact ⟨by rw [← this]; exact all_dgs l, h1⟩
theorem sgR_le (l : List UInt8) : (sgR l).length ≤ l.length := by
  cases l with
  | nil => exact Nat.le_refl _
  | cons c r =>
    show (if _ then r else c :: r).length ≤ _
    split <;> simp
theorem rst_le (l : List UInt8) : (rst l).length ≤ l.length := by
  have := congrArg List.length (dgs_rst l)
  rw [List.length_append] at this; omega
/-- is it an exponent's text, and which -/
def exB : List UInt8 → Bool
  | [] => true
  | c :: r => decide ((c.toNat : Int) = 101 ∨ (c.toNat : Int) = 69) && isd (sgR r)
def exS (r : List UInt8) : Int := if sgB r then - vc (sgR r) else vc (sgR r)
def exI : List UInt8 → Int
  | [] => 0
  | c :: r => if exB (c :: r) then exS r else 0
theorem vc_bd {l : List UInt8} (h : l.all dg = true) : 0 ≤ vc l ∧ vc l ≤ 2000000000 := by
  have := (nv_nn h).1
  unfold vc; omega
set_option maxHeartbeats 1000000 in
theorem exponent_e (c : UInt8) (r : List UInt8) (w : World) (hs : r.length < 4294967290) (hc : (c.toNat : Int) = 101 ∨ (c.toNat : Int) = 69) :
    Calls Tryd.prog 29 #[.string (B (c :: r))] w fun e w' => e = .returned (.tuple #[.int .i64 (if isd (sgR r) then exS r else 0), .bool (isd (sgR r))]) ∧ Below w.heap.size w w' := by
  have htl := B_toList
  have hsz := B_size (c :: r)
  have hln : (c :: r).length = r.length + 1 := rfl
  have hbt := B_tail c r
  have hsb := by_lt (l := c :: r) (i := 0) (by rw [hsz, hln]; omega)
  rw [by_zero] at hsb
  rw [hsz, hln] at hbt
  have c16 := fun w => lsign_any r w (by omega)
  have hsl := sgR_le r
  have c27 := fun w => ldig_any (sgR r) w (by omega)
  have hdl := dgs_le (sgR r)
  have g1 : ((c.toNat : Int) != 101 && (c.toNat : Int) != 69) = false := by
    rcases hc with h | h <;> rw [h] <;> rfl
  have g0 := c.toNat_lt
  by_cases hi : isd (sgR r) = true
  · have hi2 := (isd_iff _).1 hi
    have c40 := fun w => value_any (dgs (sgR r)) w (by omega) (all_dgs _)
    have hvb := vc_bd (all_dgs (sgR r))
    have HE : Hid (exS r = if sgB r then - vc (dgs (sgR r)) else vc (dgs (sgR r))) := by show _ = _; unfold exS; rw [rst_nil hi2.2]
    rw [if_pos hi, hi]
    rw [hi2.2] at c27
    have HN := hi2.1
    clear hi hi2
    generalize dgs (sgR r) = D at *
    cases D with
    | nil => exact absurd rfl HN
    | cons d ds =>
      clear HN
      generalize sgR r = X at *
      generalize exS r = E at *
      have hb : ∀ z : Bool, sgB r = z → Calls Tryd.prog 29 #[.string (B (c :: r))] w fun e w' => e = .returned (.tuple #[.int .i64 E, .bool true]) ∧ Below w.heap.size w w' := by
        intro z hz
        rw [hz] at c16 HE
        clear hz
        cases z
        all_goals
          simp only [Bool.false_eq_true, if_true, if_false] at HE
          rcases hc with h | h
          all_goals
            rw [HE.out]; clear HE
            go_enter Tryd.func29, Tryd.ntmps29
            go_wp2_with (first
              | (go_at_call 16; refine (c16 _).mono ?_; rintro x w1 ⟨rfl, hb1⟩)
              | (go_at_call 27; refine (c27 _).mono ?_; rintro x w2 ⟨rfl, hb2⟩)
              | (go_at_call 40; refine (c40 _).mono ?_; rintro x w3 ⟨rfl, hb3⟩))
            go_ret2
            exact ⟨rfl, bnext (bnext hb1 hb2) hb3⟩
      exact hb _ rfl
  · have hi0 : isd (sgR r) = false := by simpa using hi
    rw [if_neg hi, hi0]
    have HN : ¬ (dgs (sgR r) ≠ [] ∧ rst (sgR r) = []) := fun h => hi ((isd_iff _).2 h)
    clear hi hi0
    generalize dgs (sgR r) = D at *
    generalize rst (sgR r) = R at *
    generalize sgR r = X at *
    have hb : ∀ (k : c.toNat = 101 ∨ c.toNat = 69), Calls Tryd.prog 29 #[.string (B (c :: r))] w fun e w' => e = .returned (.tuple #[.int .i64 0, .bool false]) ∧ Below w.heap.size w w' := by
      intro _
      cases D with
      | nil =>
        clear HN
        rcases hc with h | h
        all_goals
          go_enter Tryd.func29, Tryd.ntmps29
          go_wp2_with (first
            | (go_at_call 16; refine (c16 _).mono ?_; rintro x w1 ⟨rfl, hb1⟩)
            | (go_at_call 27; refine (c27 _).mono ?_; rintro x w2 ⟨rfl, hb2⟩))
          go_ret2
          exact ⟨rfl, bnext hb1 hb2⟩
      | cons d ds =>
        cases R with
        | nil => exact absurd ⟨by simp, rfl⟩ HN
        | cons q qs =>
          clear HN
          rcases hc with h | h
          all_goals
            go_enter Tryd.func29, Tryd.ntmps29
            go_wp2_with (first
              | (go_at_call 16; refine (c16 _).mono ?_; rintro x w1 ⟨rfl, hb1⟩)
              | (go_at_call 27; refine (c27 _).mono ?_; rintro x w2 ⟨rfl, hb2⟩))
            go_ret2
            exact ⟨rfl, bnext hb1 hb2⟩
    exact hb (by omega)
set_option maxHeartbeats 1000000 in
theorem exponent_any (l : List UInt8) (w : World) (hs : l.length < 4294967290) :
    Calls Tryd.prog 29 #[.string (B l)] w fun e w' => e = .returned (.tuple #[.int .i64 (exI l), .bool (exB l)]) ∧ Below w.heap.size w w' := by
  have htl := B_toList
  cases l with
  | nil =>
    unfold exI exB
    go_enter Tryd.func29, Tryd.ntmps29
    go_wp2
    go_ret2
    exact ⟨rfl, Below.refl _ _⟩
  | cons c r =>
    by_cases hc : (c.toNat : Int) = 101 ∨ (c.toNat : Int) = 69
    · have := exponent_e c r w (by rw [List.length_cons] at hs; omega) hc
      have e1 : exB (c :: r) = isd (sgR r) := by
        show (decide _ && _) = _
        rw [decide_eq_true hc]; rfl
      rw [show exI (c :: r) = if exB (c :: r) then exS r else 0 from rfl, e1]; exact this
    · have e1 : exB (c :: r) = false := by
        show (decide _ && _) = _
        rw [decide_eq_false hc]; rfl
      have e2 : exI (c :: r) = 0 := by rw [show exI (c :: r) = if exB (c :: r) then exS r else 0 from rfl, e1]; rfl
      rw [e1, e2]
      have hsz := B_size (c :: r)
      have hln : (c :: r).length = r.length + 1 := rfl
      have hsb := by_lt (l := c :: r) (i := 0) (by rw [hsz, hln]; omega)
      rw [by_zero] at hsb
      have h1 : ¬ (c.toNat : Int) = 101 := fun h => hc (Or.inl h)
      have h2 : ¬ (c.toNat : Int) = 69 := fun h => hc (Or.inr h)
      have g1 : ((c.toNat : Int) != 101) = true := by simpa using h1
      have g2 : ((c.toNat : Int) != 69) = true := by simpa using h2
      clear hc
      go_enter Tryd.func29, Tryd.ntmps29
      go_wp2
      go_ret2
      exact ⟨rfl, Below.refl _ _⟩
/-! the document's -/
theorem nv_bar (l : List UInt8) : nv (bar l) = nv l := by
  induction l with
  | nil => rfl
  | cons c r ih =>
    rw [bar_cons]
    split
    · rename_i h
      rw [ih, show c :: r = [c] ++ r from rfl, nv_app, nv_one, h]; simp
    · rfl
theorem bar_all {l : List UInt8} (h : l.all dg = true) : (bar l).all dg = true := by
  induction l with
  | nil => rfl
  | cons c r ih =>
    rw [bar_cons]
    rw [List.all_cons, Bool.and_eq_true] at h
    split
    · exact ih h.2
    · rw [List.all_cons, h.1, h.2]; rfl
theorem bar_le (l : List UInt8) : (bar l).length ≤ l.length := by
  induction l with
  | nil => exact Nat.le_refl _
  | cons c r ih =>
    rw [bar_cons]
    split
    · rw [List.length_cons]; omega
    · exact Nat.le_refl _
theorem bar_head {l : List UInt8} {c : UInt8} {r : List UInt8} (h : bar l = c :: r) : (c.toNat : Int) ≠ 48 := by
  induction l with
  | nil => cases h
  | cons d s ih =>
    rw [bar_cons] at h
    split at h
    · exact ih h
    · rename_i hd; cases h; exact hd
set_option maxHeartbeats 1000000 in
theorem rexp_no (l : List UInt8) (w : World) (hs : l.length < 4294967290) (hi : isd (sgR l) = false) :
    Calls Tryd.prog 22 #[.string (B l)] w fun e w' => e = .returned (.tuple #[.int .i64 0, .bool false]) ∧ Below w.heap.size w w' := by
  have c19 := fun w => sign_any l w (by omega)
  have hsl := sgR_le l
  have c34 := fun w => isd_any (sgR l) w (by omega)
  rw [hi] at c34
  go_enter Tryd.func22, Tryd.ntmps22
  go_wp2_with (first
    | (go_at_call 19; refine (c19 _).mono ?_; rintro x w1 ⟨rfl, hb1⟩)
    | (go_at_call 34; refine (c34 _).mono ?_; rintro x w2 ⟨rfl, hb2⟩))
  go_ret2
  exact ⟨rfl, bnext hb1 hb2⟩
set_option maxHeartbeats 1000000 in
theorem rexp_9 (l : List UInt8) (w : World) (hs : l.length < 4294967290) (hi : isd (sgR l) = true) (h9 : (bar (sgR l)).length ≤ 9) :
    Calls Tryd.prog 22 #[.string (B l)] w fun e w' => e = .returned (.tuple #[.int .i64 (if sgB l then - nv (bar (sgR l)) else nv (bar (sgR l))), .bool true]) ∧ Below w.heap.size w w' := by
  have c19 := fun w => sign_any l w (by omega)
  have hsl := sgR_le l
  have c34 := fun w => isd_any (sgR l) w (by omega)
  rw [hi] at c34
  have c23 := fun w => bare_any (sgR l) w (by omega)
  have hd : (bar (sgR l)).all dg = true := bar_all (by unfold isd at hi; simp only [Bool.and_eq_true] at hi; exact hi.1)
  generalize bar (sgR l) = X at *
  have hsz := B_size X
  have HD : Hid (X.all dg = true) := hd
  have HA : Hid (∀ i, i < X.length → 48 ≤ by_ X i ∧ by_ X i ≤ 57) := (all_dg X).1 hd
  clear hd
  generalize sgB l = z at *
  go_enter Tryd.func22, Tryd.ntmps22
  go_wp2_with (first
    | (go_at_call 19; refine (c19 _).mono ?_; rintro x w1 ⟨rfl, hb1⟩)
    | (go_at_call 34; refine (c34 _).mono ?_; rintro x w2 ⟨rfl, hb2⟩)
    | (go_at_call 23; refine (c23 _).mono ?_; rintro x w3 ⟨rfl, hb3⟩))
  have HB := bnext (bnext hb1 hb2) hb3
  clear c19 c34 c23 hb1 hb2 hb3
  go_loop [6, 7] (fun v i => ∃ (k : Nat) (x : Int), k ≤ X.length ∧ i = .int .i64 k ∧ v = .int .i64 x ∧ Hid (x = nv (X.take k))) (fun _ i => X.length - (intOf i).toNat)
  case atStart => exact ⟨0, 0, Nat.zero_le _, rfl, rfl, rfl⟩
  case round =>
    obtain ⟨k, x, hk, rfl, rfl, hx⟩ := hrel
    have hx0 : 0 ≤ x ∧ x < 10000000000 := by
      have h0 := nv_nn (l := X.take k) (List.all_eq_true.2 fun c hc => List.all_eq_true.1 HD.out c (List.mem_of_mem_take hc))
      have hp : (10 : Int) ^ (X.take k).length ≤ 10 ^ 10 := by
        have := Nat.pow_le_pow_right (show 0 < 10 by decide) (show (X.take k).length ≤ 10 by simp; omega)
        exact_mod_cast this
      rw [← hx.out] at h0
      have : (10 : Int) ^ 10 = 10000000000 := by decide
      omega
    by_cases hlt : k < X.length
    · have hki : (k : Int) < (B X).size := by omega
      have hki2 : (k : Int) < X.length := by omega
      have hsb := by_lt (l := X) (i := k) (by omega)
      have hbd := HA.out k hlt
      have HX : Hid (10 * x + (by_ X k - 48) = nv (X.take (k + 1))) := by
        show _ = _
        rw [hx.out, nv_take hlt]
      go_wp2
      go_round
      case rel => exact ⟨k + 1, 10 * x + (by_ X k - 48), by omega, by go_num, by go_num, HX.out⟩
      case measure => simp [intOf]; omega
    · obtain rfl : k = X.length := by omega
      rw [List.take_length] at hx
      cases z
      all_goals
        go_wp2
        go_ret2
        exact ⟨by rw [← hx.out]; rfl, HB⟩
end Go.Proofs.YtgjdhfmpemionaaDoor
