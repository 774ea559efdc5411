/-
  Texts that the proof leans on, joined: Kj, Kk, Kl, Mm.
-/
import Derived.Test.YtplocajjfoiklaaGreatDoorR45
import Derived.Test.YtplocajjfoiklaaGreatDoorR13
import Derived.Test.YtplocajjfoiklaaGreatDoorR43
import Derived.Test.YtplocajjfoiklaaGreatDoorR26
import Derived.Test.YtplocajjfoiklaaGreatDoorR14
import Derived.Test.YtplocajjfoiklaaGreatDoorR38
set_option linter.unusedVariables false
set_option linter.unusedSectionVars false
set_option linter.unusedSimpArgs false
set_option maxRecDepth 20000
namespace Go.Proofs.YtplocajjfoiklaaGreatDoor
open Go.RowKit
section
def hpB (r : List UInt8) : Bool := decide (r.head? = some 46)
def hpF (r : List UInt8) : List UInt8 := if hpB r then r.tail.takeWhile hxB else []
def hpR (r : List UInt8) : List UInt8 := if hpB r then r.tail.dropWhile hxB else r
def hxR (a : List UInt8) : Option (Nat × Int) :=
 if (a.takeWhile hxB).length + (hpF (a.dropWhile hxB)).length = 0 then none
 else match hpR (a.dropWhile hxB) with
  | [] => none
  | y :: z => if y = 112 ∧ isd (sgR z) = true then some (hxV (a.takeWhile hxB) * 16 ^ (hpF (a.dropWhile hxB)).length + hxV (hpF (a.dropWhile hxB)), min (max (exS z) (-1000000000)) 1000000000 - 4 * ((hpF (a.dropWhile hxB)).length : Int)) else none
theorem IDX_head (y : UInt8) (z : List UInt8) : IDX (B (y :: z)) 0 ((y.toNat : Nat) : Int) := IDX_get rfl
theorem B_tl (y : UInt8) (z : List UInt8) : (B (y :: z)).extract 1 (z.length + 1) = B z := by
 have := B_tail y z
 rw [B_size, List.length_cons] at this
 exact this
theorem tw_le (l : List UInt8) : (l.takeWhile hxB).length + (l.dropWhile hxB).length = l.length := by
 have := congrArg List.length (List.takeWhile_append_dropWhile (p := hxB) (l := l))
 rwa [List.length_append] at this
theorem n112 {y : UInt8} (h : ¬ y = 112) : ((((y.toNat : Nat) : Int)) != 112) = true := by
 simp only [bne_iff_ne, ne_eq]
 intro e
 exact h (UInt8.toNat_inj.1 (by have : (112 : UInt8).toNat = 112 := rfl; omega))
theorem n46 {y : UInt8} (h : ¬ y = 46) : ((((y.toNat : Nat) : Int)) == 46) = false := by
 rw [beq_eq_false_iff_ne]
 intro e
 exact h (UInt8.toNat_inj.1 (by have : (46 : UInt8).toNat = 46 := rfl; omega))
section
variable {n d : Int} {l : List UInt8} (w : World) (hb : binN n) (hd : knB d) (hl : l.length ≤ 4000) (a : List UInt8) (ht : sgR (sml l) = 48 :: 120 :: a)
include hb hd hl ht
theorem hread_x : Calls Tryz.prog 12 #[.int .i64 n, .int .i64 d, .string (B l)] w fun r w' => (match hxR a with | none => r = .returned (.tuple #[Z4, .int .i64 0, .int .i64 2]) | some (N, x) => r = .returned (.tuple #[A4 (doV n d (gsgB (sml l)) N 1 x), .int .i64 (doF n d (gsgB (sml l)) N 1 x), .int .i64 0])) ∧ Below w.heap.size w w' := by
 have c11 : ∀ W, Calls Tryz.prog 14 #[.int .i64 n] W fun r w' => r = .returned (.bool true) ∧ W = w' := fun W => by
  have := rbinary_any n W
  rw [decide_eq_true hb] at this
  exact this.mono fun r w' ⟨h1, h2⟩ => ⟨h1, h2.symm⟩
 have c12 := fun W => rdir_any d W
 rw [decide_eq_true hd] at c12
 have hsm : (sml l).length = l.length := by unfold sml; simp
 have htl : (48 :: 120 :: a).length ≤ l.length := by rw [← ht, ← hsm]; exact sgR_le _
 rw [List.length_cons, List.length_cons] at htl
 have c23 := fun W => rsmall_any l W (by omega)
 have c22 := fun W => sign_any (sml l) W (by omega)
 rw [ht] at c22
 have cr1 := fun W => run_v a (by omega) W
 have hsum := tw_le a
 have hxa : (B (48 :: 120 :: a)).extract 2 (a.length + 2) = B a := by
  have := B_drop (48 :: 120 :: a) 2
  rw [B_size, List.length_cons, List.length_cons] at this
  exact this
 have hx2 : (B (48 :: 120 :: a)).extract 0 2 = B [48, 120] := by rw [B_ext]; rfl
 obtain ⟨W1, hW⟩ : ∃ W1, a.takeWhile hxB = W1 := ⟨_, rfl⟩
 obtain ⟨r1, hr⟩ : ∃ r1, a.dropWhile hxB = r1 := ⟨_, rfl⟩
 have hWa : W1.all hxB = true := by rw [← hW]; exact List.all_takeWhile
 rw [hW, hr] at cr1 hsum
 generalize gsgB (sml l) = sg at *
 have bits : ∀ (P : List UInt8), P.all hxB = true → bl (hxV P) ≤ 4 * P.length := fun P hP => by
  have := hxV_lt hP
  rw [p16] at this
  exact bl_le.2 this
 have hbW := bits W1 hWa
 have hq : (48 :: 120 :: a).length = a.length + 2 := by simp
 have hli : (l.length : Int) ≤ 4000 := by omega
 have one := fun W => c11 W
 cases r1 with
 | nil =>
  by_cases h0 : W1.length = 0
  ·have e : hxR a = none := by unfold hxR; rw [hW, hr, if_pos (by rw [h0]; rfl)]
   rw [e]
   exact hx_n0 n d l w (sml l) _ a sg (a.length + 2) _ W1.length [] hli hq (by omega) (by omega) hx2 hxa (by omega) c11 c12 c23 c22 cr1 rfl h0
  ·have e : hxR a = none := by unfold hxR; rw [hW, hr, if_neg (by show ¬ (W1.length + 0 = 0); omega)]; rfl
   rw [e]
   exact hx_n1 n d l w (sml l) _ a sg (a.length + 2) _ W1.length [] hli hq (by omega) (by omega) hx2 hxa (by omega) c11 c12 c23 c22 cr1 rfl h0
 | cons y z =>
  rw [List.length_cons] at hsum
  have hyb : 0 ≤ (((y.toNat : Nat)) : Int) ∧ (((y.toNat : Nat)) : Int) ≤ 255 := by have := y.toNat_lt; omega
  by_cases h46 : y = 46
  ·subst h46
   have hpb : hpB (46 :: z) = true := rfl
   have hF : hpF (46 :: z) = z.takeWhile hxB := rfl
   have hR : hpR (46 :: z) = z.dropWhile hxB := rfl
   have cr2 := fun W => run_v z (by omega) W
   have hsum2 := tw_le z
   obtain ⟨F1, hF1⟩ : ∃ F1, z.takeWhile hxB = F1 := ⟨_, rfl⟩
   obtain ⟨r2, hr2⟩ : ∃ r2, z.dropWhile hxB = r2 := ⟨_, rfl⟩
   have hFa : F1.all hxB = true := by rw [← hF1]; exact List.all_takeWhile
   have hbF := bits F1 hFa
   rw [hF1, hr2] at cr2 hsum2
   rw [hF1] at hF
   rw [hr2] at hR
   by_cases h0 : W1.length + F1.length = 0
   ·have e : hxR a = none := by unfold hxR; rw [hW, hr, hF, if_pos h0]
    rw [e]
    exact hx_p0 n d l w (sml l) _ a sg (a.length + 2) _ W1.length (46 :: z) hli hq (by omega) (by omega) hx2 hxa (by omega) c11 c12 c23 c22 cr1 z z.length rfl (by omega) (IDX_head 46 z) (B_tl 46 z) _ F1.length (by omega) r2 cr2 h0
   ·cases r2 with
    | nil =>
     have e : hxR a = none := by unfold hxR; rw [hW, hr, hF, hR, if_neg h0]
     rw [e]
     exact hx_p1 n d l w (sml l) _ a sg (a.length + 2) _ W1.length (46 :: z) hli hq (by omega) (by omega) hx2 hxa (by omega) c11 c12 c23 c22 cr1 z z.length rfl (by omega) (IDX_head 46 z) (B_tl 46 z) _ F1.length (by omega) [] cr2 h0 rfl
    | cons y2 z2 =>
     rw [List.length_cons] at hsum2
     have hyb2 : 0 ≤ (((y2.toNat : Nat)) : Int) ∧ (((y2.toNat : Nat)) : Int) ≤ 255 := by have := y2.toNat_lt; omega
     by_cases hp : y2 = 112
     ·have c27 := fun W => rexp_any z2 W (by omega)
      by_cases hi : isd (sgR z2) = true
      ·rw [if_pos hi, hi] at c27
       have hbd : -3000000000 ≤ exS z2 ∧ exS z2 ≤ 3000000000 := by have := exS_bd z2 hi; omega
       have e : hxR a = some (hxV W1 * 16 ^ F1.length + hxV F1, min (max (exS z2) (-1000000000)) 1000000000 - 4 * (F1.length : Int)) := by
        unfold hxR
        rw [hW, hr, hF, hR, if_neg h0]
        exact if_pos ⟨hp, hi⟩
       rw [e]
       have c18 : ∀ W v, NO 300 (hxV W1) v W → Calls Tryz.prog 28 #[v, .int .i64 (4 * (F1.length : Int))] W fun r w' => ∃ v, r = .returned v ∧ NT 2000 (hxV W1 * 16 ^ F1.length) v w' ∧ Below W.heap.size W w' := fun W v hv => by
        have := rleft_no (4 * F1.length) (by decide) (by omega) hv
        rw [← p16, show ((4 * F1.length : Nat) : Int) = 4 * (F1.length : Int) by omega] at this
        exact this
       have hbN : bl (hxV W1 * 16 ^ F1.length + hxV F1) ≤ 64000 := by
        have h1 := hxV_lt hWa
        have h2 := hxV_lt hFa
        have h3 : hxV W1 * 16 ^ F1.length + hxV F1 < 16 ^ (W1.length + F1.length) := by
         rw [Nat.pow_add]
         have h5 : (hxV W1 + 1) * 16 ^ F1.length ≤ 16 ^ W1.length * 16 ^ F1.length := Nat.mul_le_mul_right _ h1
         rw [Nat.add_mul, Nat.one_mul] at h5
         omega
        rw [p16 (W1.length + F1.length)] at h3
        have := bl_le.2 h3
        omega
       have c28 : ∀ W u v, NT 2000 (hxV W1 * 16 ^ F1.length) u W → NO 300 (hxV F1) v W → Calls Tryz.prog 44 #[u, v] W fun r w' => ∃ v, r = .returned v ∧ NT 2001 (hxV W1 * 16 ^ F1.length + hxV F1) v w' ∧ Below W.heap.size W w' := fun W u v hu hv => (radd_no (by decide) (by decide) (NO.nt (Or.inr hu)) hv.nt).mono fun r w' ⟨v, e1, e2, e3⟩ => ⟨v, e1, e2.fit (by omega), e3⟩
       exact hx_p4 n d l w (sml l) _ a sg (a.length + 2) _ W1.length (46 :: z) hli hq (by omega) (by omega) hx2 hxa (by omega) c11 c12 c23 c22 cr1 z z.length rfl (by omega) (IDX_head 46 z) (B_tl 46 z) _ F1.length (by omega) (y2 :: z2) cr2 h0 _ z2 z2.length rfl (by omega) (IDX_head y2 z2) hyb2 (B_tl y2 z2) (by rw [hp]; rfl) _ hbd c27 _ _ _ _ c18 c28 (fun W u v hu hv => round_v n d _ sg hu hv hb hd (by decide) (by omega) (by decide))
      ·have hi' : isd (sgR z2) = false := by simpa using hi
       rw [if_neg hi, hi'] at c27
       have e : hxR a = none := by
        unfold hxR
        rw [hW, hr, hF, hR, if_neg h0]
        exact if_neg fun h => hi h.2
       rw [e]
       exact hx_p3 n d l w (sml l) _ a sg (a.length + 2) _ W1.length (46 :: z) hli hq (by omega) (by omega) hx2 hxa (by omega) c11 c12 c23 c22 cr1 z z.length rfl (by omega) (IDX_head 46 z) (B_tl 46 z) _ F1.length (by omega) (y2 :: z2) cr2 h0 _ z2 z2.length rfl (by omega) (IDX_head y2 z2) hyb2 (B_tl y2 z2) (by rw [hp]; rfl) _ c27
     ·have e : hxR a = none := by
       unfold hxR
       rw [hW, hr, hF, hR, if_neg h0]
       exact if_neg fun h => hp h.1
      rw [e]
      exact hx_p2 n d l w (sml l) _ a sg (a.length + 2) _ W1.length (46 :: z) hli hq (by omega) (by omega) hx2 hxa (by omega) c11 c12 c23 c22 cr1 z z.length rfl (by omega) (IDX_head 46 z) (B_tl 46 z) _ F1.length (by omega) (y2 :: z2) cr2 h0 _ z2 z2.length rfl (by omega) (IDX_head y2 z2) hyb2 (B_tl y2 z2) (n112 hp)
  ·have hpb : hpB (y :: z) = false := by unfold hpB; simp [h46]
   have hF : hpF (y :: z) = [] := by unfold hpF; rw [hpb]; rfl
   have hR : hpR (y :: z) = y :: z := by unfold hpR; rw [hpb]; rfl
   by_cases h0 : W1.length = 0
   ·have e : hxR a = none := by unfold hxR; rw [hW, hr, hF, if_pos (by rw [h0]; rfl)]
    rw [e]
    exact hx_c0 n d l w (sml l) _ a sg (a.length + 2) _ W1.length (y :: z) hli hq (by omega) (by omega) hx2 hxa (by omega) c11 c12 c23 c22 cr1 _ z z.length rfl (by omega) (IDX_head y z) hyb (B_tl y z) (n46 h46) h0
   ·have h0' : ¬ (W1.length + ([] : List UInt8).length = 0) := by show ¬ (W1.length + 0 = 0); omega
    by_cases hp : y = 112
    ·have c27 := fun W => rexp_any z W (by omega)
     by_cases hi : isd (sgR z) = true
     ·rw [if_pos hi, hi] at c27
      have hbd : -3000000000 ≤ exS z ∧ exS z ≤ 3000000000 := by have := exS_bd z hi; omega
      have e : hxR a = some (hxV W1, min (max (exS z) (-1000000000)) 1000000000) := by
       unfold hxR
       rw [hW, hr, hF, hR, if_neg h0']
       refine (if_pos ⟨hp, hi⟩).trans ?_
       show some (hxV W1 * 16 ^ 0 + 0, _) = _
       rw [Nat.pow_zero, Nat.mul_one, Nat.add_zero]
       congr 2
       simp
      rw [e]
      have c18 : ∀ W v, NO 300 (hxV W1) v W → Calls Tryz.prog 28 #[v, .int .i64 0] W fun r w' => ∃ v, r = .returned v ∧ NT 2000 (hxV W1) v w' ∧ Below W.heap.size W w' := fun W v hv => by
       have := rleft_no 0 (by decide) (by omega) hv
       rw [Nat.pow_zero, Nat.mul_one] at this
       exact this
      have c28 : ∀ W u v, NT 2000 (hxV W1) u W → NO 300 0 v W → Calls Tryz.prog 44 #[u, v] W fun r w' => ∃ v, r = .returned v ∧ NT 2001 (hxV W1) v w' ∧ Below W.heap.size W w' := fun W u v hu hv => (radd_no (by decide) (by decide) (NO.nt (Or.inr hu)) hv.nt).mono fun r w' ⟨v, e1, e2, e3⟩ => ⟨v, e1, (show NT 2301 (hxV W1) v w' from e2).fit (by omega), e3⟩
      exact hx_c3 n d l w (sml l) _ a sg (a.length + 2) _ W1.length (y :: z) hli hq (by omega) (by omega) hx2 hxa (by omega) c11 c12 c23 c22 cr1 _ z z.length rfl (by omega) (IDX_head y z) hyb (B_tl y z) (n46 h46) h0 (by rw [hp]; rfl) _ hbd c27 _ _ _ _ c18 c28 (fun W u v hu hv => round_v n d _ sg hu hv hb hd (by decide) (by omega) (by decide))
     ·have hi' : isd (sgR z) = false := by simpa using hi
      rw [if_neg hi, hi'] at c27
      have e : hxR a = none := by
       unfold hxR
       rw [hW, hr, hF, hR, if_neg h0']
       exact if_neg fun h => hi h.2
      rw [e]
      exact hx_c2 n d l w (sml l) _ a sg (a.length + 2) _ W1.length (y :: z) hli hq (by omega) (by omega) hx2 hxa (by omega) c11 c12 c23 c22 cr1 _ z z.length rfl (by omega) (IDX_head y z) hyb (B_tl y z) (n46 h46) h0 (by rw [hp]; rfl) _ c27
    ·have e : hxR a = none := by
      unfold hxR
      rw [hW, hr, hF, hR, if_neg h0']
      exact if_neg fun h => hp h.1
     rw [e]
     exact hx_c1 n d l w (sml l) _ a sg (a.length + 2) _ W1.length (y :: z) hli hq (by omega) (by omega) hx2 hxa (by omega) c11 c12 c23 c22 cr1 _ z z.length rfl (by omega) (IDX_head y z) hyb (B_tl y z) (n46 h46) h0 (n112 hp)
end
end
section
theorem hread_a {n d : Int} {l : List UInt8} (w : World) (h : ¬ (binN n ∧ knB d)) : Calls Tryz.prog 12 #[.int .i64 n, .int .i64 d, .string (B l)] w fun r w' => r = .returned (.tuple #[Z4, .int .i64 0, .int .i64 1]) ∧ Below w.heap.size w w' := by
 have c11 : ∀ W, Calls Tryz.prog 14 #[.int .i64 n] W fun r w' => r = .returned (.bool (decide (binN n))) ∧ W = w' := fun W => (rbinary_any n W).mono fun r w' ⟨h1, h2⟩ => ⟨h1, h2.symm⟩
 by_cases hb : binN n
 ·have hd : ¬ knB d := fun hd => h ⟨hb, hd⟩
  rw [decide_eq_true hb] at c11
  have c12 := fun W => rdir_any d W
  rw [decide_eq_false hd] at c12
  exact hr_d n d l w c11 c12
 ·rw [decide_eq_false hb] at c11
  exact hr_n n d l w c11
section
variable {n d : Int} {l : List UInt8} (w : World) (hb : binN n) (hd : knB d)
include hb hd
theorem hread_l (hl : 4000 < l.length) (hl2 : l.length ≤ 10000) : Calls Tryz.prog 12 #[.int .i64 n, .int .i64 d, .string (B l)] w fun r w' => r = .returned (.tuple #[Z4, .int .i64 0, .int .i64 4]) ∧ Below w.heap.size w w' := by
 have c11 : ∀ W, Calls Tryz.prog 14 #[.int .i64 n] W fun r w' => r = .returned (.bool true) ∧ W = w' := fun W => by
  have := rbinary_any n W
  rw [decide_eq_true hb] at this
  exact this.mono fun r w' ⟨h1, h2⟩ => ⟨h1, h2.symm⟩
 have c12 := fun W => rdir_any d W
 rw [decide_eq_true hd] at c12
 exact hr_l n d l w c11 c12 (by omega) (by omega)
variable (hl : l.length ≤ 4000) (ht : ¬ (sgR (sml l)).take 2 = [48, 120])
include hl ht
theorem hread_n (h : ∀ p, cutP l = some p → p.cls = 1) : Calls Tryz.prog 12 #[.int .i64 n, .int .i64 d, .string (B l)] w fun r w' => r = .returned (.tuple #[Z4, .int .i64 0, .int .i64 2]) ∧ Below w.heap.size w w' := by
 have c11 : ∀ W, Calls Tryz.prog 14 #[.int .i64 n] W fun r w' => r = .returned (.bool true) ∧ W = w' := fun W => by
  have := rbinary_any n W
  rw [decide_eq_true hb] at this
  exact this.mono fun r w' ⟨h1, h2⟩ => ⟨h1, h2.symm⟩
 have c12 := fun W => rdir_any d W
 rw [decide_eq_true hd] at c12
 have hsm : (sml l).length = l.length := by unfold sml; simp
 have htl : (sgR (sml l)).length ≤ l.length := by rw [← hsm]; exact sgR_le _
 have c23 := fun W => rsmall_any l W (by omega)
 have c22 := fun W => sign_any (sml l) W (by omega)
 have c24 := fun W => rcut_any l W (by omega)
 have hli : (l.length : Int) ≤ 4000 := by omega
 have hne : ((sgR (sml l)).take 2 == [48, 120]) = false := beq_eq_false_iff_ne.2 ht
 cases hcut : cutP l with
 | none =>
  have hE : (cutE l != 0) = true := by
   simp only [bne_iff_ne, ne_eq]
   intro e
   have := cutE_zero e
   rw [hcut] at this
   cases this
  by_cases h2 : ((sgR (sml l)).length : Int) < 2
  ·exact hr_es n d l w c11 c12 hli (sml l) _ _ (by omega) c23 c22 h2 _ _ _ _ _ _ c24 hE
  ·exact hr_eg n d l w c11 c12 hli (sml l) _ _ (by omega) c23 c22 h2 hne _ _ _ _ _ _ c24 hE
 | some p =>
  obtain ⟨e1, e2⟩ := cutE_some hcut
  rw [e1, e2] at c24
  by_cases h2 : ((sgR (sml l)).length : Int) < 2
  ·exact hr_1s n d l w c11 c12 hli (sml l) _ _ (by omega) c23 c22 h2 _ _ _ _ _ c24 (h p hcut)
  ·exact hr_1g n d l w c11 c12 hli (sml l) _ _ (by omega) c23 c22 h2 hne _ _ _ _ _ c24 (h p hcut)
theorem hread_o {p : Prt} (hcut : cutP l = some p) (hp : p.cls ≠ 1) (V : Nat) (F E : Int) (c25 : ∀ W, Below w.heap.size w W → Calls Tryz.prog 41 #[.int .i64 n, .int .i64 d, p.v] W fun r w' => r = .returned (.tuple #[A4 V, .int .i64 F, .int .i64 E]) ∧ Below W.heap.size W w') :
  Calls Tryz.prog 12 #[.int .i64 n, .int .i64 d, .string (B l)] w fun r w' => r = .returned (.tuple #[A4 V, .int .i64 F, .int .i64 E]) ∧ Below w.heap.size w w' := by
 have c11 : ∀ W, Calls Tryz.prog 14 #[.int .i64 n] W fun r w' => r = .returned (.bool true) ∧ W = w' := fun W => by
  have := rbinary_any n W
  rw [decide_eq_true hb] at this
  exact this.mono fun r w' ⟨h1, h2⟩ => ⟨h1, h2.symm⟩
 have c12 := fun W => rdir_any d W
 rw [decide_eq_true hd] at c12
 have hsm : (sml l).length = l.length := by unfold sml; simp
 have htl : (sgR (sml l)).length ≤ l.length := by rw [← hsm]; exact sgR_le _
 have c23 := fun W => rsmall_any l W (by omega)
 have c22 := fun W => sign_any (sml l) W (by omega)
 have c24 := fun W => rcut_any l W (by omega)
 have hli : (l.length : Int) ≤ 4000 := by omega
 have hne : ((sgR (sml l)).take 2 == [48, 120]) = false := beq_eq_false_iff_ne.2 ht
 obtain ⟨e1, e2⟩ := cutE_some hcut
 rw [e1, e2] at c24
 have hp' : (p.cls == 1) = false := beq_eq_false_iff_ne.2 hp
 by_cases h2 : ((sgR (sml l)).length : Int) < 2
 ·exact hr_os n d l w c11 c12 hli (sml l) _ _ (by omega) c23 c22 h2 _ _ _ _ _ c24 hp' V F E c25
 ·exact hr_og n d l w c11 c12 hli (sml l) _ _ (by omega) c23 c22 h2 hne _ _ _ _ _ c24 hp' V F E c25
end
end
theorem hp_sml (r : List UInt8) : hpF (sml r) = sml (pxF r) ∧ hpR (sml r) = sml (pxR r) := by
 cases r with
 | nil => exact ⟨rfl, rfl⟩
 | cons y z =>
  have e0 : hpB (sml (y :: z)) = decide (y = 46) := by
   unfold hpB
   rw [sml_cons, List.head?_cons, decide_eq_decide, Option.some.injEq, sm_46]
  unfold hpF hpR pxF pxR
  rw [e0, pre46]
  by_cases h : y = 46
  ·subst h
   rw [decide_eq_true rfl, if_pos rfl, if_pos rfl, if_pos rfl, if_pos rfl, trim46, sml_cons, List.tail_cons, sml_tw, sml_dw]
   exact ⟨rfl, rfl⟩
  ·rw [decide_eq_false h]
   exact ⟨rfl, rfl⟩
theorem hxR_px (a : List UInt8) : hxR (sml a) = (match hpx (pxR (a.dropWhile hxc)) with
  | none => none
  | some X => if (a.takeWhile hxc).length + (pxF (a.dropWhile hxc)).length = 0 then none else some (hxV (sml (a.takeWhile hxc ++ pxF (a.dropWhile hxc))), X - 4 * ((pxF (a.dropWhile hxc)).length : Int))) := by
 unfold hxR
 rw [sml_tw, sml_dw]
 obtain ⟨h1, h2⟩ := hp_sml (a.dropWhile hxc)
 rw [h1, h2, sml_len, sml_len]
 generalize a.takeWhile hxc = W
 generalize pxF (a.dropWhile hxc) = F
 generalize pxR (a.dropWhile hxc) = R
 rw [sml_app, hxV_app, sml_len]
 cases R with
 | nil =>
  rw [sml_nil]
  simp [hpx]
 | cons y z =>
  rw [sml_cons]
  simp only [hpx]
  have hi : isd (sgR (sml z)) = isd (sgR z) := by rw [sgR_sml, isd_sml]
  rw [hi]
  by_cases hc : (y = 112 ∨ y = 80) ∧ isd (sgR z) = true
  ·rw [if_pos hc, if_pos (show sm y = 112 ∧ isd (sgR z) = true from ⟨(sm_112 y).2 hc.1, hc.2⟩), exS_sml hc.2]
   rfl
  ·rw [if_neg hc, if_neg (show ¬ (sm y = 112 ∧ isd (sgR z) = true) from fun h => hc ⟨(sm_112 y).1 h.1, h.2⟩)]
   simp
section
theorem tw_all (l : List UInt8) : (l.takeWhile hxc).all hxc = true := List.all_takeWhile
theorem tw_len (l : List UInt8) : (l.takeWhile hxc).length + (l.dropWhile hxc).length = l.length := by
 have := congrArg List.length (List.takeWhile_append_dropWhile (p := hxc) (l := l))
 rwa [List.length_append] at this
theorem xmkR_n {l : List UInt8} (h : xmkB l = false) : xmkR l = l := by
 match l with
 | [] => rfl
 | [_] => rfl
 | c :: y :: z => exact if_neg (by rw [h]; decide)
theorem cutp46 (r : List UInt8) (W : World) : Calls Tryz.prog 73 #[.string (B r), .string ⟨#[46]⟩] W fun e w' => e = .returned (.tuple #[.string (B (Lib.trimPrefix r [46])), .bool (Lib.hasPrefix r [46])]) ∧ Below W.heap.size W w' :=
 (cutp_any r [46] W).mono fun e w' ⟨h1, h2⟩ => ⟨h1, by rw [h2]; exact Below.refl _ _⟩
theorem hpx_bd {l : List UInt8} {X : Int} (h : hpx l = some X) : -1000000000 ≤ X ∧ X ≤ 1000000000 := by
 cases l with
 | nil => cases h
 | cons y z =>
  by_cases hc : (y = 112 ∨ y = 80) ∧ isd (sgR z) = true
  ·rw [show hpx (y :: z) = some (clampE (exS z)) from if_pos hc] at h
   have e := Option.some.inj h
   rw [← e]
   unfold clampE
   omega
  ·rw [show hpx (y :: z) = none from if_neg hc] at h
   cases h
theorem xcut_n {l : List UInt8} (hl : l.length ≤ 4000) (h : xmkB (sgR l) = false) (w : World) : Calls Tryz.prog 34 #[.string (B l)] w fun e w' => e = .returned (.tuple #[HZ, .bool false]) ∧ Below w.heap.size w w' := by
 have hsl := sgR_le l
 have c71 := fun W => xmark_any (sgR l) W (by omega)
 rw [h, xmkR_n h] at c71
 exact hc_m l w (gsgB l) (sgR l) (fun W => xsign_any l W (by omega)) c71
theorem xcut_x {l a : List UInt8} {y : UInt8} (hl : l.length ≤ 4000) (h : sgR l = 48 :: y :: a) (hy : y = 120 ∨ y = 88) (w : World) :
  Calls Tryz.prog 34 #[.string (B l)] w fun e w' => (match hxR (sml a) with
   | none => e = .returned (.tuple #[HZ, .bool false])
   | some (N, X) => ∃ a0 k0 p0, e = .returned (.tuple #[HV (gsgB l) (.slice a0 k0 p0) X, .bool true]) ∧ Nt 300 N (.slice a0 k0 p0) w') ∧ Below w.heap.size w w' := by
 have hsl := sgR_le l
 have hla : a.length + 2 ≤ 4000 := by
  rw [h, List.length_cons, List.length_cons] at hsl
  omega
 have c70 := fun W => xsign_any l W (by omega)
 rw [h] at c70
 have hm : xmkB (48 :: y :: a) = true := by unfold xmkB; simp [hy]
 have c71 := fun W => xmark_any (48 :: y :: a) W (by simp only [List.length_cons]; omega)
 rw [hm, show xmkR (48 :: y :: a) = a from if_pos hm] at c71
 have c72 := fun W => xdig_any a W (by omega)
 have hW := tw_all a
 have hWl := tw_len a
 rw [hxR_px]
 obtain ⟨W1, hW1⟩ : ∃ W1, a.takeWhile hxc = W1 := ⟨_, rfl⟩
 obtain ⟨r1, hr1⟩ : ∃ r1, a.dropWhile hxc = r1 := ⟨_, rfl⟩
 rw [hW1, hr1] at c72 hWl ⊢
 rw [hW1] at hW
 have c73 := fun W => cutp46 r1 W
 by_cases hp : Lib.hasPrefix r1 [46] = true
 ·rw [hp] at c73
  have eF : pxF r1 = (Lib.trimPrefix r1 [46]).takeWhile hxc := if_pos hp
  have eR : pxR r1 = (Lib.trimPrefix r1 [46]).dropWhile hxc := if_pos hp
  rw [eF, eR]
  have htl := trimPre_le r1 [46]
  obtain ⟨r0, hr0⟩ : ∃ r0, Lib.trimPrefix r1 [46] = r0 := ⟨_, rfl⟩
  rw [hr0] at c73 htl ⊢
  have c72' := fun W => xdig_any r0 W (by omega)
  have hF := tw_all r0
  have hFl := tw_len r0
  obtain ⟨F1, hF1⟩ : ∃ F1, r0.takeWhile hxc = F1 := ⟨_, rfl⟩
  obtain ⟨r2, hr2⟩ : ∃ r2, r0.dropWhile hxc = r2 := ⟨_, rfl⟩
  rw [hF1, hr2] at c72' hFl ⊢
  rw [hF1] at hF
  have c74 := fun W => xexp_any r2 W (by omega)
  cases hx : hpx r2 with
  | none =>
   rw [hx] at c74
   exact hc_pf l w _ _ c70 a W1 r1 c71 c72 r0 F1 r2 c73 _ c72' c74
  | some X =>
   simp only [hx, Option.getD_some, Option.isSome_some] at c74
   have hXb := hpx_bd hx
   show Calls _ _ _ _ fun e w' => (match (if W1.length + F1.length = 0 then none else some (hxV (sml (W1 ++ F1)), X - 4 * (F1.length : Int)) : Option (Nat × Int)) with | none => _ | some (N, X) => _) ∧ _
   by_cases h0 : W1.length + F1.length = 0
   ·rw [if_pos h0]
    exact hc_pz l w _ _ c70 a W1 r1 c71 c72 r0 F1 r2 c73 _ c72' c74 (List.length_eq_zero_iff.1 (by omega)) (List.length_eq_zero_iff.1 (by omega))
   ·rw [if_neg h0]
    have hall : (W1 ++ F1).all hxc = true := by rw [List.all_append, hW, hF]; rfl
    by_cases hw0 : W1 = []
    ·have c75 := fun W => xnat_v (W1 ++ F1) hall (by rw [List.length_append]; omega) W
     rw [hw0, List.nil_append] at c75 ⊢
     refine (hc_pj l w _ _ c70 a W1 r1 c71 c72 r0 F1 r2 c73 _ c72' c74 hw0 (fun e => h0 (by rw [hw0, e]; rfl)) (by omega) (by omega) _ c75).mono ?_
     rintro e w' ⟨a0, k0, p0, h1, h2, h3⟩
     exact ⟨⟨a0, k0, p0, h1, h2⟩, h3⟩
    ·have c75 := fun W => xnat_v (W1 ++ F1) hall (by rw [List.length_append]; omega) W
     refine (hc_pk l w _ _ c70 a W1 r1 c71 c72 r0 F1 r2 c73 _ c72' c74 hw0 (by omega) (by omega) (by omega) _ c75).mono ?_
     rintro e w' ⟨a0, k0, p0, h1, h2, h3⟩
     exact ⟨⟨a0, k0, p0, h1, h2⟩, h3⟩
 ·have hp' : Lib.hasPrefix r1 [46] = false := by simpa using hp
  have eT : Lib.trimPrefix r1 [46] = r1 := by unfold Lib.trimPrefix; rw [hp']; rfl
  rw [hp', eT] at c73
  have eF : pxF r1 = [] := if_neg hp
  have eR : pxR r1 = r1 := if_neg hp
  rw [eF, eR]
  have c74 := fun W => xexp_any r1 W (by omega)
  cases hx : hpx r1 with
  | none =>
   rw [hx] at c74
   exact hc_nf l w _ _ c70 a W1 r1 c71 c72 c73 _ c74
  | some X =>
   simp only [hx, Option.getD_some, Option.isSome_some] at c74
   have hXb := hpx_bd hx
   show Calls _ _ _ _ fun e w' => (match (if W1.length + 0 = 0 then none else some (hxV (sml (W1 ++ [])), X - 4 * ((0 : Nat) : Int)) : Option (Nat × Int)) with | none => _ | some (N, X) => _) ∧ _
   by_cases h0 : W1.length = 0
   ·rw [if_pos (by omega)]
    exact hc_nz l w _ _ c70 a W1 r1 c71 c72 c73 _ c74 (List.length_eq_zero_iff.1 h0)
   ·rw [if_neg (by omega), List.append_nil, show X - 4 * ((0 : Nat) : Int) = X by omega]
    have c75 := fun W => xnat_v W1 hW (by omega) W
    refine (hc_nk l w _ _ c70 a W1 r1 c71 c72 c73 _ c74 (fun e => h0 (by rw [e]; rfl)) (by omega) (by omega) _ c75).mono ?_
    rintro e w' ⟨a0, k0, p0, h1, h2, h3⟩
    exact ⟨⟨a0, k0, p0, h1, h2⟩, h3⟩
theorem hxR_bl {a : List UInt8} {N : Nat} {X : Int} (h : hxR a = some (N, X)) (hl : a.length ≤ 4000) : bl N ≤ 51200 := by
 unfold hxR at h
 split at h
 ·cases h
 ·split at h
  ·cases h
  ·split at h
   ·injection h with h
    injection h with h _
    have hW : (a.takeWhile hxB).all hxB = true := List.all_takeWhile
    have hl1 := tw_le a
    have hF : (hpF (a.dropWhile hxB)).all hxB = true ∧ (hpF (a.dropWhile hxB)).length ≤ (a.dropWhile hxB).length := by
     unfold hpF
     split
     ·refine ⟨List.all_takeWhile, ?_⟩
      have h2 := tw_le (a.dropWhile hxB).tail
      have h3 : (a.dropWhile hxB).tail.length ≤ (a.dropWhile hxB).length := by rw [List.length_tail]; omega
      omega
     ·exact ⟨rfl, Nat.zero_le _⟩
    have h3 := hxV_lt (show (a.takeWhile hxB ++ hpF (a.dropWhile hxB)).all hxB = true by rw [List.all_append, hW, hF.1]; rfl)
    rw [hxV_app, List.length_append, p16 (_ + _)] at h3
    rw [← h]
    have := bl_le.2 h3
    have := hF.2
    omega
   ·cases h
theorem mark_iff (l : List UInt8) : xmkB l = false ↔ ¬ (sml l).take 2 = [48, 120] := by
 match l with
 | [] => exact ⟨fun _ h => (by cases h), fun _ => rfl⟩
 | [c] => exact ⟨fun _ h => (by simp [sml] at h), fun _ => rfl⟩
 | c :: y :: z =>
  have e : (sml (c :: y :: z)).take 2 = [sm c, sm y] := rfl
  rw [e]
  show (decide (c = 48) && decide (y = 120 ∨ y = 88)) = false ↔ _
  constructor
  ·intro h h2
   injection h2 with h3 h4
   injection h4 with h4 _
   rw [sm_48] at h3
   rw [sm_120] at h4
   rw [decide_eq_true h3, decide_eq_true h4] at h
   cases h
  ·intro h
   by_cases h3 : c = 48
   ·by_cases h4 : y = 120 ∨ y = 88
    ·exact absurd (by rw [(sm_48 c).2 h3, (sm_120 y).2 h4]) h
    ·rw [decide_eq_false h4, Bool.and_false]
   ·rw [decide_eq_false h3, Bool.false_and]
theorem xread_a {n d : Int} {l : List UInt8} (w : World) (hT : Tab w) (h : ¬ (binN n ∧ knB d)) : Calls Tryz.prog 11 #[.int .i64 n, .int .i64 d, .string (B l)] w fun r w' => r = .returned (.tuple #[Z4, .int .i64 0, .int .i64 1]) ∧ Below w.heap.size w w' := by
 by_cases hb : binN n
 ·exact xr_d n d _ _ _ _ _ _ l w hT (fun W hT' => dof_bin hb W hT') (decide_eq_false fun hk => h ⟨hb, hk⟩)
 ·have hc := fun W' (hT' : Tab W') => ofv_any n W' hT'
  rcases not_bin hb with ⟨hok, hb10⟩ | hok
  ·rw [show infoE n = 0 from if_pos hok, hb10] at hc
   exact xr_b n d _ l w hT _ _ _ _ _ _ _ 10 _ (by decide) hc
  ·rw [show infoE n = 1 from if_neg hok] at hc
   exact xr_e n d _ l w hT _ _ _ _ _ _ _ _ 1 _ (by decide) hc
section
variable {n d : Int} {l : List UInt8} (w : World) (hT : Tab w) (hb : binN n) (hd : knB d)
include hT hb hd
theorem xread_l (hl : 4000 < l.length) (hl2 : l.length ≤ 10000) : Calls Tryz.prog 11 #[.int .i64 n, .int .i64 d, .string (B l)] w fun r w' => r = .returned (.tuple #[Z4, .int .i64 0, .int .i64 4]) ∧ Below w.heap.size w w' :=
 xr_l n d _ _ _ _ _ _ l w hT (fun W hT' => dof_bin hb W hT') (decide_eq_true hd) hl hl2
theorem xread_n (hl : l.length ≤ 4000) (c34 : ∀ W, Calls Tryz.prog 34 #[.string (B l)] W fun e w' => e = .returned (.tuple #[HZ, .bool false]) ∧ Below W.heap.size W w') (h : ∀ p, cutP l = some p → p.cls = 1) : Calls Tryz.prog 11 #[.int .i64 n, .int .i64 d, .string (B l)] w fun r w' => r = .returned (.tuple #[Z4, .int .i64 0, .int .i64 2]) ∧ Below w.heap.size w w' := by
 have c36 := fun W => cut_any l W (by omega)
 cases hcut : cutP l with
 | none =>
  have hE : (cutE l != 0) = true := by
   simp only [bne_iff_ne, ne_eq]
   intro e
   have := cutE_zero e
   rw [hcut] at this
   cases this
  exact xr_n n d _ _ _ _ _ _ l w hT (fun W hT' => dof_bin hb W hT') (decide_eq_true hd) hl c34 _ _ _ _ _ _ c36 hE
 | some p =>
  obtain ⟨e1, e2⟩ := cutE_some hcut
  rw [e1, e2] at c36
  exact xr_1 n d _ _ _ _ _ _ l w hT (fun W hT' => dof_bin hb W hT') (decide_eq_true hd) hl c34 _ _ _ _ _ 0 c36 (h p hcut)
theorem xread_o (hl : l.length ≤ 4000) (ht : ¬ (sgR (sml l)).take 2 = [48, 120]) {p : Prt} (hcut : cutP l = some p) (hp : p.cls ≠ 1) (V : Nat) (F E : Int) (c37 : ∀ W, Below w.heap.size w W → Calls Tryz.prog 37 #[.int .i64 n, .int .i64 d, p.v] W fun r w' => r = .returned (.tuple #[A4 V, .int .i64 F, .int .i64 E]) ∧ Below W.heap.size W w') :
  Calls Tryz.prog 11 #[.int .i64 n, .int .i64 d, .string (B l)] w fun r w' => r = .returned (.tuple #[A4 V, .int .i64 F, .int .i64 E]) ∧ Below w.heap.size w w' := by
 have c36 := fun W => cut_any l W (by omega)
 obtain ⟨e1, e2⟩ := cutE_some hcut
 rw [e1, e2] at c36
 have hp' : (p.cls == 1) = false := beq_eq_false_iff_ne.2 hp
 rw [sgR_sml] at ht
 exact xr_o n d _ _ _ _ _ _ l w hT (fun W hT' => dof_bin hb W hT') (decide_eq_true hd) hl (fun W => xcut_n hl ((mark_iff _).2 ht) W) _ _ _ _ _ 0 c36 hp' V F E c37
theorem xread_f (hl : l.length ≤ 4000) (ht : ¬ (sgR (sml l)).take 2 = [48, 120]) (h : ∀ p, cutP l = some p → p.cls = 1) : Calls Tryz.prog 11 #[.int .i64 n, .int .i64 d, .string (B l)] w fun r w' => r = .returned (.tuple #[Z4, .int .i64 0, .int .i64 2]) ∧ Below w.heap.size w w' := by
 rw [sgR_sml] at ht
 exact xread_n w hT hb hd hl (fun W => xcut_n hl ((mark_iff _).2 ht) W) h
theorem xread_x (hl : l.length ≤ 4000) (a : List UInt8) (ht : sgR (sml l) = 48 :: 120 :: a) : Calls Tryz.prog 11 #[.int .i64 n, .int .i64 d, .string (B l)] w fun r w' => (match hxR a with | none => r = .returned (.tuple #[Z4, .int .i64 0, .int .i64 2]) | some (N, x) => r = .returned (.tuple #[A4 (rdV n d (gsgB (sml l)) N 1 x), .int .i64 (rdF n d (gsgB (sml l)) N 1 x), .int .i64 0])) ∧ Below w.heap.size w w' := by
 have hcut := cut_0x ht
 rw [sgR_sml] at ht
 rw [gsgB_sml]
 cases hs : sgR l with
 | nil => rw [hs] at ht; cases ht
 | cons c r =>
  rw [hs, sml_cons] at ht
  cases r with
  | nil => simp [sml_nil] at ht
  | cons y z =>
   rw [sml_cons] at ht
   injection ht with h1 h2
   injection h2 with h2 h3
   rw [sm_48] at h1
   rw [sm_120] at h2
   subst h1 h3
   have c34 := fun W => xcut_x hl hs h2 W
   cases hx : hxR (sml z) with
   | none =>
    rw [hx] at c34
    exact xread_n w hT hb hd hl c34 (fun p hp => by rw [hcut] at hp; cases hp)
   | some NX =>
    obtain ⟨N, X⟩ := NX
    rw [hx] at c34
    have hNb : bl N ≤ 51200 := by
     have hsl := sgR_le l
     rw [hs, List.length_cons, List.length_cons] at hsl
     exact hxR_bl hx (by rw [sml_len]; omega)
    refine xr_h n d _ _ _ _ _ _ l w hT (fun W hT' => dof_bin hb W hT') (decide_eq_true hd) hl (gsgB l) X N _ _ _ (fun W => (c34 W).mono ?_) (fun W v v' hTW hv hv' => ?_)
    ·rintro e w' ⟨⟨a0, k0, p0, h1, h2⟩, h3⟩
     exact ⟨a0, k0, p0, h1, h2, h3⟩
    ·exact rnd_good n d X (gsgB l) hTW (hv.more (by decide)) (hv'.more (by decide)) hb hd (by decide) hNb (by decide)
end
end
end Go.Proofs.YtplocajjfoiklaaGreatDoor
