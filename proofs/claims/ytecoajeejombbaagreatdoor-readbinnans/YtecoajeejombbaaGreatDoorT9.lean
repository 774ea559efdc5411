/-
  Texts that the proof leans on, joined: Xs, Xt.
-/
import Derived.Test.YtecoajeejombbaaGreatDoorT8
import Derived.Test.YtecoajeejombbaaGreatDoorTE
set_option linter.unusedVariables false
set_option linter.unusedSectionVars false
set_option linter.unusedSimpArgs false
set_option maxRecDepth 20000
namespace Go.Proofs.YtecoajeejombbaaGreatDoor
open Go.RowKit

theorem tex_len2 {c : Int} {s g : Bool} {d : List UInt8} {e : Int} (he : -9223372036854775808 ≤ e ∧ e ≤ 9223372036854775807) : (texT c s g d e).length ≤ d.length + 100 := by
  have hi := Lib.itoa_length_le e he.1 he.2
  have h1 : (bodT c g d e).length ≤ d.length + 50 := by
    unfold bodT
    split
    · simp
    · split
      · unfold nanT
        simp only [List.length_append, List.length_cons]
        split <;> split <;> simp <;> omega
      · unfold finT dgT exT
        simp only [List.length_append]
        split <;> split <;> simp <;> omega
  unfold texT
  rw [List.length_append]
  split <;> simp <;> omega
theorem cut_dl {l : List UInt8} {p : Prt} (h : cutP l = some p) : p.dig.length ≤ l.length := by
  unfold cutP at h
  split at h
  · cases h
  · rename_i hl
    have hs := sgR_le l
    unfold bodP at h
    split at h
    · cases h
      show (finD (sgR l)).length ≤ l.length
      unfold finD
      have h1 := bar_le (dgs (sgR l) ++ frac (sgR l))
      have h2 := congrArg List.length (dgs_rst (sgR l))
      have h3 : (frac (sgR l)).length ≤ (rst (sgR l)).length := by
        unfold frac; split
        · exact Nat.le_trans (dgs_le _) (trimPre_le _ _)
        · simp
      rw [List.length_append] at h1 h2
      omega
    · split at h
      · cases h
        exact Nat.zero_le _
      · split at h
        · cases h
          show (bar (paD (nanR (sml (sgR l))))).length ≤ l.length
          have h1 := bar_le (paD (nanR (sml (sgR l))))
          have h2 : (paD (nanR (sml (sgR l)))).length ≤ (nanR (sml (sgR l))).length := by
            unfold paD
            split
            · exact Nat.le_trans (dgs_le _) (trimPre_le _ _)
            · exact Nat.zero_le _
          have h3 : (nanR (sml (sgR l))).length ≤ (sml (sgR l)).length := by
            unfold nanR
            exact Nat.le_trans (trimPre_le _ _) (trimPre_le _ _)
          rw [sml_len] at h3
          omega
        · cases h
theorem cut_jn {l : List UInt8} {p : Prt} (h : cutP l = some p) (hl : l.length ≤ 3001) : jnP p := by
  have h1 := cut_good h
  have h2 := cut_dl h
  have h3 := tex_len2 (c := p.cls) (s := p.sg) (g := p.sn) (d := p.dig) (cut_ex h)
  refine jn_of_gd ⟨h1.1, ?_⟩
  rcases h1.2 with ⟨a, b, c⟩ | h | ⟨a, b⟩
  · exact Or.inl ⟨a, b, c, by omega⟩
  · exact Or.inr (Or.inl h)
  · exact Or.inr (Or.inr ⟨a, b, by omega⟩)
/-- the parts with this sign -/
def Prt.at (p : Prt) (s : Bool) : Prt := ⟨p.cls, s, p.sn, p.dig, p.ex⟩
theorem bod_sg (r : List UInt8) : bodP true r = (bodP false r).map fun p => p.at true := by
  unfold bodP
  split
  · rfl
  · split
    · rfl
    · split
      · rfl
      · rfl
theorem bod_false {r : List UInt8} {p : Prt} (h : bodP false r = some p) : p.at false = p := by
  unfold bodP at h
  split at h
  · cases h; rfl
  · split at h
    · cases h; rfl
    · split at h
      · cases h; rfl
      · cases h
theorem cut_neg {c : UInt8} {r : List UInt8} (hc : (c.toNat : Int) ≠ 45 ∧ (c.toNat : Int) ≠ 43) (hl : (c :: r).length ≤ 3000) :
    (cutE (c :: r) = 0 ∧ cutE (45 :: c :: r) = 0 ∧ ∃ p : Prt, cutP (c :: r) = some (p.at false) ∧ cutP (45 :: c :: r) = some (p.at true)) ∨ (cutE (c :: r) = 2 ∧ cutE (45 :: c :: r) = 2) := by
  have h1 := sg_cons (r := r) hc
  have l2 : (45 :: c :: r).length = (c :: r).length + 1 := rfl
  have e1 : cutP (c :: r) = bodP false (c :: r) := by
    unfold cutP; rw [if_neg (by omega), h1.1, h1.2]
  have e2 : cutP (45 :: c :: r) = (bodP false (c :: r)).map fun p => p.at true := by
    rw [← bod_sg]
    unfold cutP; rw [if_neg (by omega)]; rfl
  have f1 : cutE (c :: r) = if (cutP (c :: r)).isSome then 0 else 2 := by unfold cutE; rw [if_neg (by omega)]
  have f2 : cutE (45 :: c :: r) = if (cutP (45 :: c :: r)).isSome then 0 else 2 := by unfold cutE; rw [if_neg (by omega)]
  rw [f1, f2, e1, e2]
  cases h : bodP false (c :: r) with
  | none => exact Or.inr ⟨rfl, rfl⟩
  | some p => exact Or.inl ⟨rfl, rfl, p, by rw [bod_false h], rfl⟩
/-! Make by value -/
def mkV (n d : Int) (p : Prt) : Nat := if p.cls = 1 then rdV n d p.sg (tN (dV p.dig) (pwE p.dig.length p.ex)) (tD (pwE p.dig.length p.ex)) (pwE p.dig.length p.ex) else if p.cls = 2 then pkV n ⟨2, p.sg, false, 0, 0⟩ else pkV n ⟨3, p.sg, p.sn, 0, plV (fN n) p.sn (dV p.dig)⟩
def mkF (n d : Int) (p : Prt) : Int := if p.cls = 1 then rdF n d p.sg (tN (dV p.dig) (pwE p.dig.length p.ex)) (tD (pwE p.dig.length p.ex)) (pwE p.dig.length p.ex) else 0
theorem make_v {n d : Int} {p : Prt} (hb : binN n) (hk : knB d) (hj : jnP p) (he : -9223372036854775808 ≤ p.ex ∧ p.ex ≤ 9223372036854775807) (W : World) (hT : Tab W) (hT10 : Tb10 W) :
    Calls Tryz.prog 12 #[.int .i64 n, .int .i64 d, p.v] W fun r w' => r = .returned (.tuple #[A4 (mkV n d p), .int .i64 (mkF n d p), .int .i64 0]) ∧ Below W.heap.size W w' := by
  have c28 := fun W (hT : Tab W) => rck_good n d W hT ⟨hb, hk⟩
  have hgd := gd_of_jn hj
  have hl4 := hj.1
  obtain ⟨hdD, hcls⟩ := id hgd
  have hall := gdD_all hdD
  obtain ⟨fl1, fl2, fl3, fl4, fl5⟩ := fld_bd hb
  have hf2 := fN_ge hb
  unfold mkV mkF
  rcases hcls with ⟨hc, hsn, hx, _⟩ | ⟨hc, hsn, hd0, hx0⟩ | ⟨hc, hx0, _⟩
  · rw [if_pos hc, if_pos hc]
    exact make_1 n d p.cls p.sg p.sn p.dig p.ex _ _ _ _ _ _ _ W hT c28 (fun W' hW' => join_y p W' (hT10.next hW') he hj) hc _ _ _ (fun W' hT' => finite8 n d 1 p.sg p.sn p.dig p.ex W' hT' hb hk hall hl4)
  · have hc1 : ¬ p.cls = 1 := by omega
    rw [if_neg hc1, if_neg hc1, if_pos hc]
    have hi : isD (fN n) (leastN n) (mostN n) ⟨2, p.sg, false, 0, 0⟩ := Or.inr (Or.inl ⟨rfl, rfl, rfl, rfl⟩)
    have hE : pkE n ⟨2, p.sg, false, 0, 0⟩ = 0 := by unfold pkE; rw [if_pos hb, if_pos hi]
    have c34 := fun W hT => pack_any n ⟨2, p.sg, false, 0, 0⟩ W hT (show 0 < 2 ^ 256 by decide)
    rw [show (Dat.v ⟨2, p.sg, false, 0, 0⟩) = _ from DV_zero 2 p.sg false 0, hE] at c34
    exact make_2 n d p.cls p.sg p.sn p.dig p.ex _ _ _ _ _ _ _ W hT c28 (fun W' hW' => join_y p W' (hT10.next hW') he hj) hc _ _ (by rw [hsn]; exact c34)
  · have hc1 : ¬ p.cls = 1 := by omega
    have hc2 : ¬ p.cls = 2 := by omega
    rw [if_neg hc1, if_neg hc1, if_neg hc2]
    have hi := pl_isD (l := leastN n) (m := mostN n) p.sg p.sn (dV p.dig) hf2
    have hE : pkE n ⟨3, p.sg, p.sn, 0, plV (fN n) p.sn (dV p.dig)⟩ = 0 := by unfold pkE; rw [if_pos hb, if_pos hi]
    have hlt := plV_lt (f := fN n) (A := dV p.dig) p.sn fl4
    have c34 := fun W hT => pack_any n ⟨3, p.sg, p.sn, 0, plV (fN n) p.sn (dV p.dig)⟩ W hT hlt
    rw [hE] at c34
    exact make_3 n d p.cls p.sg p.sn p.dig p.ex _ _ _ _ _ _ _ W hT c28 (fun W' hW' => join_y p W' (hT10.next hW') he hj) hc _ _ _ (fun W' => payload8 _ _ _ _ _ _ _ 3 p.sg p.sn p.dig p.ex W' fl4 hall hl4) c34
theorem nan_bit {f e K k : Nat} (hf : 1 ≤ f) (hk : k < 2 ^ (f - 1)) (hK : K = k ∨ K = k + 2 ^ (f - 1)) : (2 ^ e - 1) * 2 ^ f + K < 2 ^ (f + e) := by
  have h1 : 2 ^ f = 2 ^ (f - 1) + 2 ^ (f - 1) := by
    obtain ⟨j, rfl⟩ : ∃ j, f = j + 1 := ⟨f - 1, by omega⟩
    rw [Nat.add_sub_cancel, Nat.pow_succ]; omega
  have h2 : 2 ^ (f + e) = 2 ^ e * 2 ^ f := by rw [Nat.pow_add, Nat.mul_comm]
  have h3 := Nat.two_pow_pos e
  have h4 : 2 ^ e * 2 ^ f = (2 ^ e - 1) * 2 ^ f + 2 ^ f := by
    obtain ⟨j, hj⟩ : ∃ j, 2 ^ e = j + 1 := ⟨2 ^ e - 1, by omega⟩
    rw [hj, Nat.add_sub_cancel, Nat.succ_mul]
  omega
theorem pk_nan {n : Int} {g : Bool} {k : Nat} (hb : binN n) (h : ∀ s, isD (fN n) (leastN n) (mostN n) ⟨3, s, g, 0, k⟩) : pkV n ⟨3, true, g, 0, k⟩ = pkV n ⟨3, false, g, 0, k⟩ + 2 ^ (fN n + eN n) ∧ pkV n ⟨3, false, g, 0, k⟩ < 2 ^ (fN n + eN n) := by
  have hf2 := fN_ge hb
  have hk : k < 2 ^ (fN n - 1) := by
    rcases h true with ⟨hc, _⟩ | ⟨hc, _⟩ | ⟨_, _, hk, _⟩
    · exact absurd (show (3 : Int) = 1 from hc) (by decide)
    · exact absurd (show (3 : Int) = 2 from hc) (by decide)
    · exact hk
  unfold pkV
  rw [if_pos ⟨hb, h true⟩, if_pos ⟨hb, h false⟩]
  unfold pk
  simp only [show ¬ ((3 : Int) = 1) by decide, show ¬ ((3 : Int) = 2) by decide, if_false, if_true, Bool.false_eq_true, Nat.add_zero]
  refine ⟨trivial, nan_bit (by omega) hk ?_⟩
  cases g
  · exact Or.inr rfl
  · exact Or.inl rfl
theorem mk_turn {n : Int} (d : Int) (p : Prt) (hb : binN n) : mkV n (othD d) (p.at true) = mkV n d (p.at false) + 2 ^ (fN n + eN n) ∧ mkF n (othD d) (p.at true) = mkF n d (p.at false) ∧ mkV n d (p.at false) < 2 ^ (fN n + eN n) := by
  have hD : tD (pwE p.dig.length p.ex) ≠ 0 := Nat.pos_iff_ne_zero.1 (Nat.pow_pos (by decide))
  have hf2 := fN_ge hb
  unfold mkV mkF
  show (if p.cls = 1 then rdV n (othD d) true (tN (dV p.dig) (pwE p.dig.length p.ex)) (tD (pwE p.dig.length p.ex)) (pwE p.dig.length p.ex) else if p.cls = 2 then pkV n ⟨2, true, false, 0, 0⟩ else pkV n ⟨3, true, p.sn, 0, plV (fN n) p.sn (dV p.dig)⟩) = (if p.cls = 1 then rdV n d false (tN (dV p.dig) (pwE p.dig.length p.ex)) (tD (pwE p.dig.length p.ex)) (pwE p.dig.length p.ex) else if p.cls = 2 then pkV n ⟨2, false, false, 0, 0⟩ else pkV n ⟨3, false, p.sn, 0, plV (fN n) p.sn (dV p.dig)⟩) + 2 ^ (fN n + eN n) ∧
    (if p.cls = 1 then rdF n (othD d) true (tN (dV p.dig) (pwE p.dig.length p.ex)) (tD (pwE p.dig.length p.ex)) (pwE p.dig.length p.ex) else 0) = (if p.cls = 1 then rdF n d false (tN (dV p.dig) (pwE p.dig.length p.ex)) (tD (pwE p.dig.length p.ex)) (pwE p.dig.length p.ex) else 0) ∧
    (if p.cls = 1 then rdV n d false (tN (dV p.dig) (pwE p.dig.length p.ex)) (tD (pwE p.dig.length p.ex)) (pwE p.dig.length p.ex) else if p.cls = 2 then pkV n ⟨2, false, false, 0, 0⟩ else pkV n ⟨3, false, p.sn, 0, plV (fN n) p.sn (dV p.dig)⟩) < 2 ^ (fN n + eN n)
  by_cases h1 : p.cls = 1
  · simp only [h1, if_true]
    exact rd_turn d _ _ hb hD
  · simp only [h1, if_false]
    by_cases h2 : p.cls = 2
    · simp only [h2, if_true]
      rw [pk_inf hb, pk_inf hb]
      unfold sgN
      simp only [if_true, Bool.false_eq_true, if_false, Nat.add_zero]
      exact ⟨trivial, trivial, tp_lt hb⟩
    · simp only [h2, if_false]
      obtain ⟨a, b⟩ := pk_nan hb (fun s => pl_isD (l := leastN n) (m := mostN n) s p.sn (dV p.dig) hf2)
      exact ⟨a, trivial, b⟩
/-! Read by value -/
theorem read_v {n d : Int} {l : List UInt8} {p : Prt} (hb : binN n) (hk : knB d) (h : cutP l = some p) (hl : l.length ≤ 3001) (W : World) (hT : Tab W) (hT10 : Tb10 W) :
    Calls Tryz.prog 10 #[.int .i64 n, .int .i64 d, .string (B l)] W fun r w' => r = .returned (.tuple #[A4 (mkV n d p), .int .i64 (mkF n d p), .int .i64 0]) ∧ Below W.heap.size W w' := by
  have c29 := fun W => cut_any l W (by omega)
  rw [(cutE_some h).1, (cutE_some h).2] at c29
  exact read_k n d l p _ _ _ _ _ _ W hT _ _ _ (fun W hT => rck_good n d W hT ⟨hb, hk⟩) c29 (fun W' hW' => make_v hb hk (cut_jn h hl) (cut_ex h) W' (hT.go hW') (hT10.next hW'))
theorem read_2 {n d : Int} {l : List UInt8} (hb : binN n) (hk : knB d) (h : cutE l = 2) (hl : l.length ≤ 3001) (W : World) (hT : Tab W) (hT10 : Tb10 W) :
    Calls Tryz.prog 10 #[.int .i64 n, .int .i64 d, .string (B l)] W fun r w' => r = .returned (.tuple #[A4 0, .int .i64 0, .int .i64 2]) ∧ Below W.heap.size W w' := by
  have c29 := fun W => cut_any l W (by omega)
  rw [h] at c29
  rw [A4_zero]
  exact read_c n d l (cutV l) _ _ _ _ _ _ W hT _ (by decide) (fun W hT => rck_good n d W hT ⟨hb, hk⟩) c29
end Go.Proofs.YtecoajeejombbaaGreatDoor

namespace Go.Proofs.YtecoajeejombbaaGreatDoor
open Go.RowKit

attribute [local irreducible] W4
section
variable (n d : Int) (l : List UInt8) (w : World) (hT : Tab w) (hT10 : Tb10 w)
include hT hT10
set_option maxHeartbeats 2000000 in
theorem trn_long (h : (3000 : Int) < (B l).size) :
    Calls Tryz.prog 8 #[.int .i64 n, .int .i64 d, .string (B l)] w fun r w' => r = .returned (.bool true) ∧ Below w.heap.size w w' := by
  have c9 := awake8
  have hB : Below w.heap.size w w := Below.refl _ _
  go_enter Tryz.func8, Tryz.ntmps8
  go_wp2_with (first | (go_at_call 9; refine (c9 _ (hT.go hB) (hT10.next hB)).mono ?_; rintro r w1 ⟨rfl, hb1⟩; replace hB := bnext hB hb1; clear hb1))
  go_ret
  exact ⟨rfl, hB⟩
variable (h : ¬ (3000 : Int) < (B l).size)
include h
set_option maxHeartbeats 2000000 in
theorem trn_nb (c22 : ∀ W, Calls Tryz.prog 22 #[.int .i64 n] W fun r w' => r = .returned (.bool false) ∧ W = w') :
    Calls Tryz.prog 8 #[.int .i64 n, .int .i64 d, .string (B l)] w fun r w' => r = .returned (.bool true) ∧ Below w.heap.size w w' := by
  have c9 := awake8
  have hB : Below w.heap.size w w := Below.refl _ _
  go_enter Tryz.func8, Tryz.ntmps8
  go_wp2_with (first
    | (go_at_call 9; refine (c9 _ (hT.go hB) (hT10.next hB)).mono ?_; rintro r w1 ⟨rfl, hb1⟩; replace hB := bnext hB hb1; clear hb1)
    | (go_at_call 22; refine (c22 _).mono ?_; rintro r w1 ⟨rfl, rfl⟩))
  go_ret
  exact ⟨rfl, hB⟩
variable (c22 : ∀ W, Calls Tryz.prog 22 #[.int .i64 n] W fun r w' => r = .returned (.bool true) ∧ W = w')
include c22
set_option maxHeartbeats 2000000 in
theorem trn_nd (c15 : ∀ W, Calls Tryz.prog 15 #[.int .i64 d] W fun r w' => r = .returned (.bool false) ∧ W = w') :
    Calls Tryz.prog 8 #[.int .i64 n, .int .i64 d, .string (B l)] w fun r w' => r = .returned (.bool true) ∧ Below w.heap.size w w' := by
  have c9 := awake8
  have hB : Below w.heap.size w w := Below.refl _ _
  go_enter Tryz.func8, Tryz.ntmps8
  go_wp2_with (first
    | (go_at_call 9; refine (c9 _ (hT.go hB) (hT10.next hB)).mono ?_; rintro r w1 ⟨rfl, hb1⟩; replace hB := bnext hB hb1; clear hb1)
    | (go_at_call 22; refine (c22 _).mono ?_; rintro r w1 ⟨rfl, rfl⟩)
    | (go_at_call 15; refine (c15 _).mono ?_; rintro r w1 ⟨rfl, rfl⟩))
  go_ret
  exact ⟨rfl, hB⟩
end
section
variable (n d : Int) (w : World) (hT : Tab w) (hT10 : Tb10 w)
  (c22 : ∀ W, Calls Tryz.prog 22 #[.int .i64 n] W fun r w' => r = .returned (.bool true) ∧ W = w')
  (c15 : ∀ W, Calls Tryz.prog 15 #[.int .i64 d] W fun r w' => r = .returned (.bool true) ∧ W = w')
include hT hT10 c22 c15
set_option maxHeartbeats 2000000 in
theorem trn_nil :
    Calls Tryz.prog 8 #[.int .i64 n, .int .i64 d, .string (B [])] w fun r w' => r = .returned (.bool true) ∧ Below w.heap.size w w' := by
  have c9 := awake8
  have hsz : (B []).size = 0 := rfl
  have hB : Below w.heap.size w w := Below.refl _ _
  go_enter Tryz.func8, Tryz.ntmps8
  go_wp2_with (first
    | (go_at_call 9; refine (c9 _ (hT.go hB) (hT10.next hB)).mono ?_; rintro r w1 ⟨rfl, hb1⟩; replace hB := bnext hB hb1; clear hb1)
    | (go_at_call 22; refine (c22 _).mono ?_; rintro r w1 ⟨rfl, rfl⟩)
    | (go_at_call 15; refine (c15 _).mono ?_; rintro r w1 ⟨rfl, rfl⟩))
  go_ret
  exact ⟨rfl, hB⟩
variable (c : UInt8) (r : List UInt8) (h : (r.length : Int) + 1 ≤ 3000)
include h
set_option maxHeartbeats 2000000 in
theorem trn_sg (hc : (c.toNat : Int) = 45 ∨ (c.toNat : Int) = 43) :
    Calls Tryz.prog 8 #[.int .i64 n, .int .i64 d, .string (B (c :: r))] w fun r w' => r = .returned (.bool true) ∧ Below w.heap.size w w' := by
  have c9 := awake8
  have htl := B_toList
  have hsz := B_size (c :: r)
  have hln : (c :: r).length = r.length + 1 := rfl
  have hsb := by_lt (l := c :: r) (i := 0) (by rw [hsz, hln]; omega)
  rw [by_zero] at hsb
  have hbd := c.toNat_lt
  have hB : Below w.heap.size w w := Below.refl _ _
  rcases hc with hc | hc
  · go_enter Tryz.func8, Tryz.ntmps8
    go_wp2_with (first
      | (go_at_call 9; refine (c9 _ (hT.go hB) (hT10.next hB)).mono ?_; rintro r w1 ⟨rfl, hb1⟩; replace hB := bnext hB hb1; clear hb1)
      | (go_at_call 22; refine (c22 _).mono ?_; rintro r w1 ⟨rfl, rfl⟩)
      | (go_at_call 15; refine (c15 _).mono ?_; rintro r w1 ⟨rfl, rfl⟩))
    go_ret
    exact ⟨rfl, hB⟩
  · go_enter Tryz.func8, Tryz.ntmps8
    go_wp2_with (first
      | (go_at_call 9; refine (c9 _ (hT.go hB) (hT10.next hB)).mono ?_; rintro r w1 ⟨rfl, hb1⟩; replace hB := bnext hB hb1; clear hb1)
      | (go_at_call 22; refine (c22 _).mono ?_; rintro r w1 ⟨rfl, rfl⟩)
      | (go_at_call 15; refine (c15 _).mono ?_; rintro r w1 ⟨rfl, rfl⟩))
    go_ret
    exact ⟨rfl, hB⟩
end
end Go.Proofs.YtecoajeejombbaaGreatDoor
