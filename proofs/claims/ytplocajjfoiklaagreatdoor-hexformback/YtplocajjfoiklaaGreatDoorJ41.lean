/-
  Texts that the proof leans on, joined: Mm, Mp, Sh8, Mq, Ms.
-/
import Derived.Test.YtplocajjfoiklaaGreatDoorJ40
import Derived.Test.YtplocajjfoiklaaGreatDoorJ33
import Derived.Test.YtplocajjfoiklaaGreatDoorJ28
import Derived.Test.YtplocajjfoiklaaGreatDoorJ27
import Derived.Test.YtplocajjfoiklaaGreatDoorJ32
import Derived.Test.YtplocajjfoiklaaGreatDoorJ36
import Derived.Test.YtplocajjfoiklaaGreatDoorJ31
import Derived.Test.YtplocajjfoiklaaGreatDoorJ37
import Derived.Test.YtplocajjfoiklaaGreatDoorJ39
import Derived.Deep.Cut
import Derived.Deep.CutRange
import Derived.Test.YtplocajjfoiklaaGreatDoorJ1
set_option linter.unusedVariables false
set_option linter.unusedSectionVars false
set_option linter.unusedSimpArgs false
set_option maxRecDepth 20000
namespace Go.Proofs.YtplocajjfoiklaaGreatDoor
open Go.RowKit

theorem tw_all (l : List UInt8) : (l.takeWhile hxc).all hxc = true := List.all_takeWhile
theorem tw_len (l : List UInt8) : (l.takeWhile hxc).length + (l.dropWhile hxc).length = l.length := by
  have := congrArg List.length (List.takeWhile_append_dropWhile (p := hxc) (l := l))
  rwa [List.length_append] at this
theorem xmkR_n {l : List UInt8} (h : xmkB l = false) : xmkR l = l := by
  match l with
  | [] => rfl
  | [_] => rfl
  | c :: y :: z => exact if_neg (by rw [h]; decide)
theorem cutp46 (r : List UInt8) (W : World) : Calls Tryz.prog 73 #[.string (B r), .string ⟨#[46]⟩] W fun e w' => e = .returned (.tuple #[.string (B (Lib.trimPrefix r [46])), .bool (Lib.hasPrefix r [46])]) ∧ Below W.heap.size W w' :=
  (cutp_any r [46] W).mono fun e w' ⟨h1, h2⟩ => ⟨h1, by rw [h2]; exact Below.refl _ _⟩
theorem hpx_bd {l : List UInt8} {X : Int} (h : hpx l = some X) : -1000000000 ≤ X ∧ X ≤ 1000000000 := by
  cases l with
  | nil => cases h
  | cons y z =>
    by_cases hc : (y = 112 ∨ y = 80) ∧ isd (sgR z) = true
    · rw [show hpx (y :: z) = some (clampE (exS z)) from if_pos hc] at h
      have e := Option.some.inj h
      rw [← e]
      unfold clampE
      omega
    · rw [show hpx (y :: z) = none from if_neg hc] at h
      cases h
theorem xcut_n {l : List UInt8} (hl : l.length ≤ 4000) (h : xmkB (sgR l) = false) (w : World) : Calls Tryz.prog 34 #[.string (B l)] w fun e w' => e = .returned (.tuple #[HZ, .bool false]) ∧ Below w.heap.size w w' := by
  have hsl := sgR_le l
  have c71 := fun W => xmark_any (sgR l) W (by omega)
  rw [h, xmkR_n h] at c71
  exact hc_m l w (gsgB l) (sgR l) (fun W => xsign_any l W (by omega)) c71
theorem xcut_x {l a : List UInt8} {y : UInt8} (hl : l.length ≤ 4000) (h : sgR l = 48 :: y :: a) (hy : y = 120 ∨ y = 88) (w : World) :
    Calls Tryz.prog 34 #[.string (B l)] w fun e w' => (match hxR (sml a) with
      | none => e = .returned (.tuple #[HZ, .bool false])
      | some (N, X) => ∃ a0 k0 p0, e = .returned (.tuple #[HV (gsgB l) (.slice a0 k0 p0) X, .bool true]) ∧ Nt 300 N (.slice a0 k0 p0) w') ∧ Below w.heap.size w w' := by
  have hsl := sgR_le l
  have hla : a.length + 2 ≤ 4000 := by
    rw [h, List.length_cons, List.length_cons] at hsl
    omega
  have c70 := fun W => xsign_any l W (by omega)
  rw [h] at c70
  have hm : xmkB (48 :: y :: a) = true := by unfold xmkB; simp [hy]
  have c71 := fun W => xmark_any (48 :: y :: a) W (by simp only [List.length_cons]; omega)
  rw [hm, show xmkR (48 :: y :: a) = a from if_pos hm] at c71
  have c72 := fun W => xdig_any a W (by omega)
  have hW := tw_all a
  have hWl := tw_len a
  rw [hxR_px]
  obtain ⟨W1, hW1⟩ : ∃ W1, a.takeWhile hxc = W1 := ⟨_, rfl⟩
  obtain ⟨r1, hr1⟩ : ∃ r1, a.dropWhile hxc = r1 := ⟨_, rfl⟩
  rw [hW1, hr1] at c72 hWl ⊢
  rw [hW1] at hW
  have c73 := fun W => cutp46 r1 W
  by_cases hp : Lib.hasPrefix r1 [46] = true
  · rw [hp] at c73
    have eF : pxF r1 = (Lib.trimPrefix r1 [46]).takeWhile hxc := if_pos hp
    have eR : pxR r1 = (Lib.trimPrefix r1 [46]).dropWhile hxc := if_pos hp
    rw [eF, eR]
    have htl := trimPre_le r1 [46]
    obtain ⟨r0, hr0⟩ : ∃ r0, Lib.trimPrefix r1 [46] = r0 := ⟨_, rfl⟩
    rw [hr0] at c73 htl ⊢
    have c72' := fun W => xdig_any r0 W (by omega)
    have hF := tw_all r0
    have hFl := tw_len r0
    obtain ⟨F1, hF1⟩ : ∃ F1, r0.takeWhile hxc = F1 := ⟨_, rfl⟩
    obtain ⟨r2, hr2⟩ : ∃ r2, r0.dropWhile hxc = r2 := ⟨_, rfl⟩
    rw [hF1, hr2] at c72' hFl ⊢
    rw [hF1] at hF
    have c74 := fun W => xexp_any r2 W (by omega)
    cases hx : hpx r2 with
    | none =>
      rw [hx] at c74
      exact hc_pf l w _ _ c70 a W1 r1 c71 c72 r0 F1 r2 c73 _ c72' c74
    | some X =>
      simp only [hx, Option.getD_some, Option.isSome_some] at c74
      have hXb := hpx_bd hx
      show Calls _ _ _ _ fun e w' => (match (if W1.length + F1.length = 0 then none else some (hxV (sml (W1 ++ F1)), X - 4 * (F1.length : Int)) : Option (Nat × Int)) with | none => _ | some (N, X) => _) ∧ _
      by_cases h0 : W1.length + F1.length = 0
      · rw [if_pos h0]
        exact hc_pz l w _ _ c70 a W1 r1 c71 c72 r0 F1 r2 c73 _ c72' c74 (List.length_eq_zero_iff.1 (by omega)) (List.length_eq_zero_iff.1 (by omega))
      · rw [if_neg h0]
        have hall : (W1 ++ F1).all hxc = true := by rw [List.all_append, hW, hF]; rfl
        by_cases hw0 : W1 = []
        · have c75 := fun W => xnat_v (W1 ++ F1) hall (by rw [List.length_append]; omega) W
          rw [hw0, List.nil_append] at c75 ⊢
          refine (hc_pj l w _ _ c70 a W1 r1 c71 c72 r0 F1 r2 c73 _ c72' c74 hw0 (fun e => h0 (by rw [hw0, e]; rfl)) (by omega) (by omega) _ c75).mono ?_
          rintro e w' ⟨a0, k0, p0, h1, h2, h3⟩
          exact ⟨⟨a0, k0, p0, h1, h2⟩, h3⟩
        · have c75 := fun W => xnat_v (W1 ++ F1) hall (by rw [List.length_append]; omega) W
          refine (hc_pk l w _ _ c70 a W1 r1 c71 c72 r0 F1 r2 c73 _ c72' c74 hw0 (by omega) (by omega) (by omega) _ c75).mono ?_
          rintro e w' ⟨a0, k0, p0, h1, h2, h3⟩
          exact ⟨⟨a0, k0, p0, h1, h2⟩, h3⟩
  · have hp' : Lib.hasPrefix r1 [46] = false := by simpa using hp
    have eT : Lib.trimPrefix r1 [46] = r1 := by unfold Lib.trimPrefix; rw [hp']; rfl
    rw [hp', eT] at c73
    have eF : pxF r1 = [] := if_neg hp
    have eR : pxR r1 = r1 := if_neg hp
    rw [eF, eR]
    have c74 := fun W => xexp_any r1 W (by omega)
    cases hx : hpx r1 with
    | none =>
      rw [hx] at c74
      exact hc_nf l w _ _ c70 a W1 r1 c71 c72 c73 _ c74
    | some X =>
      simp only [hx, Option.getD_some, Option.isSome_some] at c74
      have hXb := hpx_bd hx
      show Calls _ _ _ _ fun e w' => (match (if W1.length + 0 = 0 then none else some (hxV (sml (W1 ++ [])), X - 4 * ((0 : Nat) : Int)) : Option (Nat × Int)) with | none => _ | some (N, X) => _) ∧ _
      by_cases h0 : W1.length = 0
      · rw [if_pos (by omega)]
        exact hc_nz l w _ _ c70 a W1 r1 c71 c72 c73 _ c74 (List.length_eq_zero_iff.1 h0)
      · rw [if_neg (by omega), List.append_nil, show X - 4 * ((0 : Nat) : Int) = X by omega]
        have c75 := fun W => xnat_v W1 hW (by omega) W
        refine (hc_nk l w _ _ c70 a W1 r1 c71 c72 c73 _ c74 (fun e => h0 (by rw [e]; rfl)) (by omega) (by omega) _ c75).mono ?_
        rintro e w' ⟨a0, k0, p0, h1, h2, h3⟩
        exact ⟨⟨a0, k0, p0, h1, h2⟩, h3⟩
/-- the number's bits -/
theorem hxR_bl {a : List UInt8} {N : Nat} {X : Int} (h : hxR a = some (N, X)) (hl : a.length ≤ 4000) : bl N ≤ 51200 := by
  unfold hxR at h
  split at h
  · cases h
  · split at h
    · cases h
    · split at h
      · injection h with h
        injection h with h _
        have hW : (a.takeWhile hxB).all hxB = true := List.all_takeWhile
        have hl1 := tw_le a
        have hF : (hpF (a.dropWhile hxB)).all hxB = true ∧ (hpF (a.dropWhile hxB)).length ≤ (a.dropWhile hxB).length := by
          unfold hpF
          split
          · refine ⟨List.all_takeWhile, ?_⟩
            have h2 := tw_le (a.dropWhile hxB).tail
            have h3 : (a.dropWhile hxB).tail.length ≤ (a.dropWhile hxB).length := by rw [List.length_tail]; omega
            omega
          · exact ⟨rfl, Nat.zero_le _⟩
        have h3 := hxV_lt (show (a.takeWhile hxB ++ hpF (a.dropWhile hxB)).all hxB = true by rw [List.all_append, hW, hF.1]; rfl)
        rw [hxV_app, List.length_append, p16 (_ + _)] at h3
        rw [← h]
        have := bl_le.2 h3
        have := hF.2
        omega
      · cases h
/-- a text opens with 0x -/
theorem mark_iff (l : List UInt8) : xmkB l = false ↔ ¬ (sml l).take 2 = [48, 120] := by
  match l with
  | [] => exact ⟨fun _ h => (by cases h), fun _ => rfl⟩
  | [c] => exact ⟨fun _ h => (by simp [sml] at h), fun _ => rfl⟩
  | c :: y :: z =>
    have e : (sml (c :: y :: z)).take 2 = [sm c, sm y] := rfl
    rw [e]
    show (decide (c = 48) && decide (y = 120 ∨ y = 88)) = false ↔ _
    constructor
    · intro h h2
      injection h2 with h3 h4
      injection h4 with h4 _
      rw [sm_48] at h3
      rw [sm_120] at h4
      rw [decide_eq_true h3, decide_eq_true h4] at h
      cases h
    · intro h
      by_cases h3 : c = 48
      · by_cases h4 : y = 120 ∨ y = 88
        · exact absurd (by rw [(sm_48 c).2 h3, (sm_120 y).2 h4]) h
        · rw [decide_eq_false h4, Bool.and_false]
      · rw [decide_eq_false h3, Bool.false_and]
section
variable {n d : Int} {l : List UInt8} (w : World) (hT : Tab w) (hb : binN n) (hd : knB d)
include hT hb hd
theorem xread_n (hl : l.length ≤ 4000) (c34 : ∀ W, Calls Tryz.prog 34 #[.string (B l)] W fun e w' => e = .returned (.tuple #[HZ, .bool false]) ∧ Below W.heap.size W w') (h : ∀ p, cutP l = some p → p.cls = 1) : Calls Tryz.prog 11 #[.int .i64 n, .int .i64 d, .string (B l)] w fun r w' => r = .returned (.tuple #[Z4, .int .i64 0, .int .i64 2]) ∧ Below w.heap.size w w' := by
  have c36 := fun W => cut_any l W (by omega)
  cases hcut : cutP l with
  | none =>
    have hE : (cutE l != 0) = true := by
      simp only [bne_iff_ne, ne_eq]
      intro e
      have := cutE_zero e
      rw [hcut] at this
      cases this
    exact xr_n n d _ _ _ _ _ _ l w hT (fun W hT' => dof_bin hb W hT') (decide_eq_true hd) hl c34 _ _ _ _ _ _ c36 hE
  | some p =>
    obtain ⟨e1, e2⟩ := cutE_some hcut
    rw [e1, e2] at c36
    exact xr_1 n d _ _ _ _ _ _ l w hT (fun W hT' => dof_bin hb W hT') (decide_eq_true hd) hl c34 _ _ _ _ _ 0 c36 (h p hcut)
theorem xread_o (hl : l.length ≤ 4000) (ht : ¬ (sgR (sml l)).take 2 = [48, 120]) {p : Prt} (hcut : cutP l = some p) (hp : p.cls ≠ 1) (V : Nat) (F E : Int) (c37 : ∀ W, Below w.heap.size w W → Calls Tryz.prog 37 #[.int .i64 n, .int .i64 d, p.v] W fun r w' => r = .returned (.tuple #[A4 V, .int .i64 F, .int .i64 E]) ∧ Below W.heap.size W w') :
    Calls Tryz.prog 11 #[.int .i64 n, .int .i64 d, .string (B l)] w fun r w' => r = .returned (.tuple #[A4 V, .int .i64 F, .int .i64 E]) ∧ Below w.heap.size w w' := by
  have c36 := fun W => cut_any l W (by omega)
  obtain ⟨e1, e2⟩ := cutE_some hcut
  rw [e1, e2] at c36
  have hp' : (p.cls == 1) = false := beq_eq_false_iff_ne.2 hp
  rw [sgR_sml] at ht
  exact xr_o n d _ _ _ _ _ _ l w hT (fun W hT' => dof_bin hb W hT') (decide_eq_true hd) hl (fun W => xcut_n hl ((mark_iff _).2 ht) W) _ _ _ _ _ 0 c36 hp' V F E c37
theorem xread_x (hl : l.length ≤ 4000) (a : List UInt8) (ht : sgR (sml l) = 48 :: 120 :: a) : Calls Tryz.prog 11 #[.int .i64 n, .int .i64 d, .string (B l)] w fun r w' => (match hxR a with | none => r = .returned (.tuple #[Z4, .int .i64 0, .int .i64 2]) | some (N, x) => r = .returned (.tuple #[A4 (rdV n d (gsgB (sml l)) N 1 x), .int .i64 (rdF n d (gsgB (sml l)) N 1 x), .int .i64 0])) ∧ Below w.heap.size w w' := by
  have hcut := cut_0x ht
  rw [sgR_sml] at ht
  rw [gsgB_sml]
  cases hs : sgR l with
  | nil => rw [hs] at ht; cases ht
  | cons c r =>
    rw [hs, sml_cons] at ht
    cases r with
    | nil => simp [sml_nil] at ht
    | cons y z =>
      rw [sml_cons] at ht
      injection ht with h1 h2
      injection h2 with h2 h3
      rw [sm_48] at h1
      rw [sm_120] at h2
      subst h1 h3
      have c34 := fun W => xcut_x hl hs h2 W
      cases hx : hxR (sml z) with
      | none =>
        rw [hx] at c34
        exact xread_n w hT hb hd hl c34 (fun p hp => by rw [hcut] at hp; cases hp)
      | some NX =>
        obtain ⟨N, X⟩ := NX
        rw [hx] at c34
        have hNb : bl N ≤ 51200 := by
          have hsl := sgR_le l
          rw [hs, List.length_cons, List.length_cons] at hsl
          exact hxR_bl hx (by rw [sml_len]; omega)
        refine xr_h n d _ _ _ _ _ _ l w hT (fun W hT' => dof_bin hb W hT') (decide_eq_true hd) hl (gsgB l) X N _ _ _ (fun W => (c34 W).mono ?_) (fun W v v' hTW hv hv' => ?_)
        · rintro e w' ⟨⟨a0, k0, p0, h1, h2⟩, h3⟩
          exact ⟨a0, k0, p0, h1, h2, h3⟩
        · exact rnd_good n d X (gsgB l) hTW (hv.more (by decide)) (hv'.more (by decide)) hb hd (by decide) hNb (by decide)
end
end Go.Proofs.YtplocajjfoiklaaGreatDoor

namespace Go.Proofs.YtplocajjfoiklaaGreatDoor
open Go.RowKit

theorem it_exp (e : Int) (h : -1000000000 ≤ e ∧ e ≤ 1000000000) : isd (sgR (Lib.itoa e)) = true ∧ exS (Lib.itoa e) = e := by
  unfold Lib.itoa
  split
  · rename_i h1
    have e1 : gsgB (45 :: Lib.decDigits e.natAbs) = true := rfl
    have e2 : sgR (45 :: Lib.decDigits e.natAbs) = Lib.decDigits e.natAbs := rfl
    unfold exS
    rw [e1, e2, if_pos rfl]
    refine ⟨dec_isd _, ?_⟩
    unfold vc; rw [dec_nv]; omega
  · rename_i h1
    obtain ⟨e1, e2⟩ := sg_all (dec_dg e.toNat)
    unfold exS
    rw [e1, e2]
    refine ⟨dec_isd _, ?_⟩
    rw [if_neg (by decide)]
    unfold vc; rw [dec_nv]; omega
theorem sg_exp (e : Int) (h : -1000000000 ≤ e ∧ e ≤ 1000000000) : isd (sgR (sgE e)) = true ∧ exS (sgE e) = e := by
  unfold sgE
  by_cases h0 : 0 ≤ e
  · rw [if_pos h0]
    unfold Lib.itoa
    rw [if_neg (by omega)]
    have e1 : gsgB ([43] ++ Lib.decDigits e.toNat) = false := rfl
    have e2 : sgR ([43] ++ Lib.decDigits e.toNat) = Lib.decDigits e.toNat := rfl
    unfold exS
    rw [e1, e2]
    refine ⟨dec_isd _, ?_⟩
    rw [if_neg (by decide)]
    unfold vc; rw [dec_nv]; omega
  · rw [if_neg h0, List.nil_append]
    exact it_exp e h
theorem sm_hxB {y : UInt8} (h : hxB y = true) : sm y = y := by
  have := u8_all (p := fun y => !hxB y || sm y == y) (by decide +kernel) y
  simpa [h] using this
theorem sml_hx {D : List UInt8} (h : D.all hxB = true) : sml D = D := by
  induction D with
  | nil => rfl
  | cons c r ih =>
    rw [List.all_cons, Bool.and_eq_true] at h
    rw [sml_cons, ih h.2, sm_hxB h.1]
theorem sml_it (e : Int) : sml (Lib.itoa e) = Lib.itoa e := by
  unfold Lib.itoa
  split
  · rw [sml_cons, sml_dig (dec_dg _)]
    rfl
  · exact sml_dig (dec_dg _)
theorem sml_sg (e : Int) : sml (sgE e) = sgE e := by
  unfold sgE
  rw [sml_app, sml_it]
  split <;> rfl
theorem app_tw {W : List UInt8} {y : UInt8} {t : List UInt8} (hW : W.all hxB = true) (hy : hxB y = false) : (W ++ y :: t).takeWhile hxB = W ∧ (W ++ y :: t).dropWhile hxB = y :: t := by
  have h := fun a ha => List.all_eq_true.1 hW a ha
  refine ⟨?_, ?_⟩
  · rw [List.takeWhile_append_of_pos h, List.takeWhile_cons_of_neg (by rw [hy]; decide), List.append_nil]
  · rw [List.dropWhile_append_of_pos h, List.dropWhile_cons_of_neg (by rw [hy]; decide)]
theorem hxR_p {W F z : List UInt8} (hW : W.all hxB = true) (hF : F.all hxB = true) (h0 : W.length + F.length ≠ 0) (hz : isd (sgR z) = true) :
    hxR (W ++ 46 :: (F ++ 112 :: z)) = some (hxV W * 16 ^ F.length + hxV F, min (max (exS z) (-1000000000)) 1000000000 - 4 * (F.length : Int)) := by
  obtain ⟨a1, a2⟩ := app_tw (t := F ++ 112 :: z) hW (show hxB 46 = false from rfl)
  obtain ⟨b1, b2⟩ := app_tw (t := z) hF (show hxB 112 = false from rfl)
  unfold hxR
  rw [a1, a2, show hpF (46 :: (F ++ 112 :: z)) = F from b1, show hpR (46 :: (F ++ 112 :: z)) = 112 :: z from b2, if_neg h0]
  exact if_pos ⟨rfl, hz⟩
theorem hxR_n {W z : List UInt8} (hW : W.all hxB = true) (h0 : W.length ≠ 0) (hz : isd (sgR z) = true) :
    hxR (W ++ 112 :: z) = some (hxV W, min (max (exS z) (-1000000000)) 1000000000) := by
  obtain ⟨a1, a2⟩ := app_tw (t := z) hW (show hxB 112 = false from rfl)
  unfold hxR
  rw [a1, a2, show hpF (112 :: z) = [] from rfl, show hpR (112 :: z) = 112 :: z from rfl, if_neg (by simpa using h0)]
  refine (if_pos ⟨rfl, hz⟩).trans ?_
  show some (hxV W * 16 ^ 0 + 0, _ - 4 * ((0 : Nat) : Int)) = _
  rw [Nat.pow_zero, Nat.mul_one, Nat.add_zero, show ∀ x : Int, x - 4 * ((0 : Nat) : Int) = x from fun x => by omega]
/-- what is read of a text that opens with 0x -/
theorem xread_v {n d : Int} {l a : List UInt8} {s : Bool} {N : Nat} {X : Int} (hb : binN n) (hd : knB d) (hl : l.length ≤ 4000) (hg : gsgB (sml l) = s) (ha : sgR (sml l) = 48 :: 120 :: a) (hx : hxR a = some (N, X)) (w : World) (hT : Tab w) :
    Calls Tryz.prog 11 #[.int .i64 n, .int .i64 d, .string (B l)] w fun r w' => r = .returned (.tuple #[A4 (rdV n d s N 1 X), .int .i64 (rdF n d s N 1 X), .int .i64 0]) ∧ Below w.heap.size w w' := by
  have := xread_x w hT hb hd hl a ha
  rw [hx, hg] at this
  exact this
theorem sgL_app (s : Bool) (t : List UInt8) : gsgB (sml ((if s then [45] else []) ++ 48 :: 120 :: t)) = s ∧ sgR (sml ((if s then [45] else []) ++ 48 :: 120 :: t)) = 48 :: 120 :: sml t := by
  rw [gsgB_sml, sgR_sml]
  obtain ⟨h1, h2⟩ := sig_app s 48 (120 :: t) (by decide)
  rw [h1, h2]
  exact ⟨rfl, rfl⟩
end Go.Proofs.YtplocajjfoiklaaGreatDoor

namespace Go.Proofs.YtplocajjfoiklaaGreatDoor
open Go.RowKit

theorem pay_id {f k : Nat} {g : Bool} (hf : 1 ≤ f) (hk : k < 2 ^ (f - 1)) (hg : k ≠ 0 ∨ g = false) : plV f g k = k := by
  have hbl : bl k ≤ f - 1 := bl_le.2 hk
  have e : plA f k = k := by unfold plA; rw [if_neg (by omega)]
  unfold plV
  rw [e]
  split
  · rename_i h
    rcases hg with h2 | h2
    · exact absurd h.2 h2
    · rw [h2] at h; exact absurd h.1 (by decide)
  · rfl
end Go.Proofs.YtplocajjfoiklaaGreatDoor

namespace Go.Proofs.YtplocajjfoiklaaGreatDoor
open Go.RowKit

/-- the text of a finite number, behind 0x, and what it is read as -/
theorem hw_read (k : Nat) {x : Int} (hk : bl k ≤ 241) (hx : -40000 ≤ x ∧ x ≤ 40000) : ∃ t, hwT k x = 48 :: 120 :: t ∧ sml t = t ∧ hxR t = (if k = 0 then some (0, 0) else some (16 ^ (hbD k).length + hxV (hbD k), x + bl k - 1 - 4 * ((hbD k).length : Int))) := by
  unfold hwT
  by_cases h0 : k = 0
  · rw [if_pos h0, if_pos h0]
    exact ⟨[48, 112, 43, 48], rfl, by decide, by kernel_rfl⟩
  · rw [if_neg h0, if_neg h0]
    obtain ⟨d1, d2, d3⟩ := hbD_facts k
    have hE : -1000000000 ≤ x + bl k - 1 ∧ x + bl k - 1 ≤ 1000000000 := by omega
    obtain ⟨s1, s2⟩ := sg_exp (x + bl k - 1) hE
    by_cases hD : hbD k = []
    · refine ⟨[49] ++ 112 :: sgE (x + bl k - 1), ?_, ?_, ?_⟩
      · unfold hbT sgE
        rw [if_pos hD]
        simp
      · rw [sml_app, show sml [49] = [49] from rfl, sml_cons, sml_sg]
        rfl
      · rw [hxR_n rfl (by decide) s1, s2, hD]
        congr 2
        have : ((([] : List UInt8).length : Nat) : Int) = 0 := rfl
        omega
    · refine ⟨[49] ++ 46 :: (hbD k ++ 112 :: sgE (x + bl k - 1)), ?_, ?_, ?_⟩
      · unfold hbT sgE
        rw [if_neg hD]
        simp
      · rw [sml_app, show sml [49] = [49] from rfl, sml_cons, sml_app, sml_cons, sml_sg, sml_hx d1]
        rfl
      · rw [hxR_p rfl d1 (by show 1 + _ ≠ 0; omega) s1, s2]
        congr 2
        · rw [show hxV [49] = 1 by decide, Nat.one_mul]
        · omega
/-- infinities and NaNs -/
theorem oth_back {n : Int} {V : Nat} (hg : goodN n V) (hc : (unD n V).c ≠ 1) :
    cutP (texT (unD n V).c (unD n V).s (unD n V).g (dcL (unD n V).k) 0) = some ⟨(unD n V).c, (unD n V).s, (unD n V).g, dcL (unD n V).k, 0⟩ ∧ (∀ d, mkV n d ⟨(unD n V).c, (unD n V).s, (unD n V).g, dcL (unD n V).k, 0⟩ = V ∧ mkF n d ⟨(unD n V).c, (unD n V).s, (unD n V).g, dcL (unD n V).k, 0⟩ = 0) ∧ (texT (unD n V).c (unD n V).s (unD n V).g (dcL (unD n V).k) 0).length ≤ 3001 := by
  have hV := (back_un hg).2
  have hb := hg.1
  have hkk := unD_k n V
  have hD := un_isD hg
  have hf1 : 1 ≤ fN n := by
    rcases bin_cases hb with h | h | h | h | h | h <;> rw [h] <;> decide
  generalize hd : unD n V = d at *
  obtain ⟨c, s, g, x, k⟩ := d
  dsimp only at *
  rcases hD with ⟨h1, _⟩ | ⟨h1, h2, h3, h4⟩ | ⟨h1, h2, h3, h4⟩
  · exact absurd h1 hc
  · dsimp only at h1 h2 h3 h4
    subst h1 h2 h3 h4
    have e0 : dcL 0 = [] := by kernel_rfl
    rw [e0]
    refine ⟨by cases s <;> kernel_rfl, fun d => ⟨?_, ?_⟩, by cases s <;> decide⟩
    · unfold mkV
      rw [if_neg (show ¬ (2 : Int) = 1 by decide), if_pos rfl]
      exact hV
    · unfold mkF
      rw [if_neg (show ¬ (2 : Int) = 1 by decide)]
  · dsimp only at h1 h2 h3 h4
    subst h1 h2
    obtain ⟨f1, f2, f3⟩ := dcL_facts hkk
    have hlen : (texT 3 s g (dcL k) 0).length ≤ 3001 := by
      have := tex_len2 (c := 3) (s := s) (g := g) (d := dcL k) (e := 0) (by decide)
      omega
    have hj := (jn_of_gd (p := ⟨3, s, g, dcL k, 0⟩) ⟨f1, Or.inr (Or.inr ⟨rfl, rfl, by show (texT 3 s g (dcL k) 0).length ≤ 4000; omega⟩)⟩).2
    refine ⟨hj, fun d => ⟨?_, ?_⟩, hlen⟩
    · unfold mkV
      rw [if_neg (show ¬ (3 : Int) = 1 by decide), if_neg (show ¬ (3 : Int) = 2 by decide)]
      dsimp only
      rw [f2, pay_id hf1 h3 h4]
      exact hV
    · unfold mkF
      rw [if_neg (show ¬ (3 : Int) = 1 by decide)]
/-- in whatever direction: the pattern, without flags -/
theorem xback {n : Int} {V : Nat} (hV : V < 2 ^ 256) (hg : goodN n V) :
    ∃ T : List UInt8, T.length ≤ 3001 ∧ (∀ W, Tab W → Tb10 W → TbZ W → Calls Tryz.prog 9 #[.int .i64 n, A4 V] W fun r w' => r = .returned (.tuple #[.string (B T), .int .i64 0]) ∧ Below W.heap.size W w') ∧
      (∀ d W, knB d → Tab W → Tb10 W → Calls Tryz.prog 11 #[.int .i64 n, .int .i64 d, .string (B T)] W fun r w' => r = .returned (.tuple #[A4 V, .int .i64 0, .int .i64 0]) ∧ Below W.heap.size W w') := by
  have hb := hg.1
  have hVk := (back_un hg).2
  by_cases hc : (unD n V).c = 1
  · refine ⟨sgL (unD n V).s ++ hwT (unD n V).k (unD n V).x, ?_, fun W h1 h2 h3 => xwrite_f hV hg W h1 h2 h3 hc, fun d W hd hT hT10 => ?_⟩
    all_goals
      obtain ⟨hkb, hxb, hD⟩ : bl (unD n V).k ≤ 241 ∧ (-40000 ≤ (unD n V).x ∧ (unD n V).x ≤ 40000) ∧ isD (fN n) (leastN n) (mostN n) ⟨1, (unD n V).s, false, (unD n V).x, (unD n V).k⟩ ∧ unD n V = ⟨1, (unD n V).s, false, (unD n V).x, (unD n V).k⟩ := by
        have hf := (bin_fm hb).f240
        rcases un_isD hg with ⟨e1, e2, e3, e4, e5, e6⟩ | ⟨e1, _⟩ | ⟨e1, _⟩
        · have hx := bin_x hb e4 e5
          have := bl_le.2 e3
          refine ⟨by omega, ⟨by omega, by omega⟩, Or.inl ⟨rfl, rfl, e3, e4, e5, e6⟩, ?_⟩
          rw [← e1, ← e2]
        · omega
        · omega
    · rw [List.length_append]
      have := hwT_len (unD n V).k hkb hxb
      have h2 : (sgL (unD n V).s).length ≤ 1 := by cases (unD n V).s <;> decide
      omega
    · obtain ⟨t, t1, t2, t3⟩ := hw_read (unD n V).k hkb hxb
      have hlen := hwT_len (unD n V).k hkb hxb
      have h2 : (sgL (unD n V).s).length ≤ 1 := by cases (unD n V).s <;> decide
      obtain ⟨g1, g2⟩ := sgL_app (unD n V).s t
      have hlt : (sgL (unD n V).s ++ hwT (unD n V).k (unD n V).x).length ≤ 4000 := by rw [List.length_append]; omega
      rw [t1] at hlt ⊢
      obtain ⟨hD1, hD2⟩ := hD
      rw [hD2] at hVk
      rw [t2] at g2
      by_cases h0 : (unD n V).k = 0
      · rw [if_pos h0] at t3
        have := xread_v hb hd hlt g1 g2 t3 W hT
        have e1 : rdV n d (unD n V).s 0 1 0 = V := by
          unfold rdV
          rw [if_pos rfl]
          have hx : (unD n V).x = leastN n := by
            rcases hD1 with ⟨_, _, _, _, _, h | h⟩ | ⟨h, _⟩ | ⟨h, _⟩
            · have h' : 2 ^ fN n ≤ (unD n V).k := h
              have := Nat.two_pow_pos (fN n)
              omega
            · exact h
            · exact absurd h (show ¬ (1 : Int) = 2 by decide)
            · exact absurd h (show ¬ (1 : Int) = 3 by decide)
          rw [h0, hx] at hVk
          exact hVk
        have e2 : rdF n d (unD n V).s 0 1 0 = 0 := by unfold rdF; rw [if_pos rfl]
        rw [e1, e2] at this
        exact this
      · rw [if_neg h0] at t3
        have := xread_v hb hd hlt g1 g2 t3 W hT
        obtain ⟨e1, e2⟩ := hb_keeps d hb hD1 h0
        rw [e1, e2, hVk] at this
        exact this
  · obtain ⟨hcut, hv, hl⟩ := oth_back hg hc
    refine ⟨texT (unD n V).c (unD n V).s (unD n V).g (dcL (unD n V).k) 0, hl, fun W h1 h2 h3 => xwrite_o hV hg W h1 h2 hc, fun d W hd hT hT10 => ?_⟩
    have ht : ¬ (sgR (sml (texT (unD n V).c (unD n V).s (unD n V).g (dcL (unD n V).k) 0))).take 2 = [48, 120] := by
      intro h
      have h2 : sgR (sml (texT (unD n V).c (unD n V).s (unD n V).g (dcL (unD n V).k) 0)) = 48 :: 120 :: (sgR (sml (texT (unD n V).c (unD n V).s (unD n V).g (dcL (unD n V).k) 0))).drop 2 := by
        have := List.take_append_drop 2 (sgR (sml (texT (unD n V).c (unD n V).s (unD n V).g (dcL (unD n V).k) 0)))
        rw [h] at this
        exact this.symm
      rw [cut_0x h2] at hcut
      cases hcut
    refine xread_o W hT hb hd (by omega) ht hcut hc V 0 0 fun W' hW' => ?_
    have := make_v hb hd (cut_jn hcut hl) (cut_ex hcut) W' (hT.go hW') (hT10.next hW')
    obtain ⟨m1, m2⟩ := hv d
    rw [m1, m2] at this
    exact this
end Go.Proofs.YtplocajjfoiklaaGreatDoor

namespace Go.Proofs.YtplocajjfoiklaaGreatDoor
open Go.RowKit

attribute [local irreducible] W4
section
variable (n : Int) (V : Nat) (w : World) (hT : Tab w) (hT10 : Tb10 w) (hTZ : TbZ w)
variable (c8 : ∀ W, Below w.heap.size w W → Calls Tryz.prog 8 #[] W fun r w' => r = .returned (.bool true) ∧ Below W.heap.size W w')
include hT hT10 hTZ c8
set_option maxHeartbeats 2000000 in
theorem law11_5e (c9 : ∀ W, Tab W → Calls Tryz.prog 9 #[.int .i64 n, A4 V] W fun r w' => r = .returned (.tuple #[.string ⟨#[]⟩, .int .i64 1]) ∧ Below W.heap.size W w')
    (c13 : ∀ W, Calls Tryz.prog 13 #[.int .i64 n, A4 V] W fun r w' => r = .returned (.bool false) ∧ Below W.heap.size W w') :
    Calls Tryz.prog 5 #[.int .i64 n, A4 V] w fun r w' => r = .returned (.bool true) ∧ Below w.heap.size w w' := by
  have hsm := cell_set_map
  unfold A4 at *
  go_enter Tryz.func5, Tryz.ntmps5
  go_wp2_with (first
    | (go_at_call 8; refine (c8 _ bgo).mono ?_; rintro r w1 ⟨rfl, hb1⟩; obtain ⟨hc1, hf1⟩ := bcell hb1; have hz1_0 : w.heap.size < w1.heap.size := lt_below hb1 ltg; have hl1_0 := Nat.le_of_lt hz1_0; have hA1 := bnext (w0 := w) bgo hb1; have hs1 := hA1.size; clear hb1)
    | (go_at_call 9; refine (c9 _ (hT.go bgo)).mono ?_; rintro r w2 ⟨rfl, hb2⟩; obtain ⟨hc2, hf2⟩ := bcell hb2; have hz2_0 : w.heap.size < w2.heap.size := lt_below hb2 ltg; have hl2_0 := Nat.le_of_lt hz2_0; have hA2 := bnext (w0 := w) bgo hb2; have hs2 := hA2.size; clear hb2)
    | (go_at_call 13; refine (c13 _).mono ?_; rintro r w3 ⟨rfl, hb3⟩; obtain ⟨hc3, hf3⟩ := bcell hb3; have hz3_0 : w.heap.size < w3.heap.size := lt_below hb3 ltg; have hl3_0 := Nat.le_of_lt hz3_0; have hA3 := bnext (w0 := w) bgo hb3; have hs3 := hA3.size; clear hb3))
  go_ret
  exact ⟨by simp, bgo⟩
set_option maxHeartbeats 4000000 in
theorem law11_5k (T : List UInt8)
    (c9 : ∀ W, Tab W → Tb10 W → TbZ W → Calls Tryz.prog 9 #[.int .i64 n, A4 V] W fun r w' => r = .returned (.tuple #[.string (B T), .int .i64 0]) ∧ Below W.heap.size W w')
    (c11 : ∀ d W, knB d → Tab W → Tb10 W → Calls Tryz.prog 11 #[.int .i64 n, .int .i64 d, .string (B T)] W fun r w' => r = .returned (.tuple #[A4 V, .int .i64 0, .int .i64 0]) ∧ Below W.heap.size W w') :
    Calls Tryz.prog 5 #[.int .i64 n, A4 V] w fun r w' => r = .returned (.bool true) ∧ Below w.heap.size w w' := by
  have hsm := cell_set_map
  have h24 := eq24 (W4 V 0) (W4 V 1) (W4 V 2) (W4 V 3) (W4 V 0) (W4 V 1) (W4 V 2) (W4 V 3)
  rw [show decide (W4 V 0 = W4 V 0 ∧ W4 V 1 = W4 V 1 ∧ W4 V 2 = W4 V 2 ∧ W4 V 3 = W4 V 3) = true by simp] at h24
  generalize B T = bT at *
  unfold A4 at *
  go_enter Tryz.func5, Tryz.ntmps5
  go_wp2_with (first
    | (go_at_call 8; refine (c8 _ bgo).mono ?_; rintro r w1 ⟨rfl, hb1⟩; obtain ⟨hc1, hf1⟩ := bcell hb1; have hz1_0 : w.heap.size < w1.heap.size := lt_below hb1 ltg; have hl1_0 := Nat.le_of_lt hz1_0; have hA1 := bnext (w0 := w) bgo hb1; have hs1 := hA1.size; clear hb1)
    | (go_at_call 9; refine (c9 _ (hT.go bgo) (hT10.next bgo) (hTZ.next bgo)).mono ?_; rintro r w2 ⟨rfl, hb2⟩; obtain ⟨hc2, hf2⟩ := bcell hb2; have hz2_0 : w.heap.size < w2.heap.size := lt_below hb2 ltg; have hl2_0 := Nat.le_of_lt hz2_0; have hA2 := bnext (w0 := w) bgo hb2; have hs2 := hA2.size; clear hb2))
  have K : ∀ q, q < 4 → w2.cell? ⟨w.heap.size, q, none⟩ = some (.int .u64 (W4 V q)) := by
    intro q hq
    have hor : q = 0 ∨ q = 1 ∨ q = 2 ∨ q = 3 := by omega
    rcases hor with rfl | rfl | rfl | rfl <;> go_simp
  clear hc1 hf1 hc2 hf2 c8 c9
  go_loopw [7, 8, 9, 10, 29] (fun _ _ _ _ t29 wr => ∃ i : Nat, i ≤ 5 ∧ t29 = .int .i64 (i : Int) ∧ (∀ q, q < 4 → wr.cell? ⟨w.heap.size, q, none⟩ = some (.int .u64 (W4 V q))) ∧ Below w.heap.size w wr ∧ w.heap.size < wr.heap.size) (fun _ _ _ _ t29 _ => 5 - (intOf t29).toNat)
  case atStart => exact ⟨0, by omega, by go_num, K, hA2, hz2_0⟩
  case round =>
    obtain ⟨i, hi, rfl, hK, hB, hsz⟩ := hrel
    by_cases h5 : i < 5
    · have hii : (i : Int) < 5 := by omega
      have hkn : knB (i : Int) := by
        have hor : i = 0 ∨ i = 1 ∨ i = 2 ∨ i = 3 ∨ i = 4 := by omega
        rcases hor with rfl | rfl | rfl | rfl | rfl <;> decide
      have cR := c11 i wr hkn (hT.go hB) (hT10.next hB)
      have k0 := hK 0 (by omega)
      have k1 := hK 1 (by omega)
      have k2 := hK 2 (by omega)
      have k3 := hK 3 (by omega)
      have HB : Hid (Below w.heap.size w wr) := hB
      have HK : Hid (∀ q, q < 4 → wr.cell? ⟨w.heap.size, q, none⟩ = some (.int .u64 (W4 V q))) := hK
      clear hB hK K
      go_wp2_with (go_at_call 11; refine cR.mono ?_; rintro r w3 ⟨rfl, hb3⟩; have HB3 : Hid (Below wr.heap.size wr w3) := hb3; obtain ⟨hc3, hf3⟩ := bcell hb3; have hs3 := hb3.size; have hl3 : w.heap.size < w3.heap.size := Nat.lt_of_lt_of_le hsz hs3; clear hb3)
      go_roundw
      case rel =>
        refine ⟨i + 1, by omega, by go_num, fun q hq => ?_, ?_, by simp; omega⟩
        · have e1 := (HB3.out.cell (p := ⟨w.heap.size, q, none⟩) hsz).trans (HK.out q hq)
          have e2 := (below1 w3 (.cells #[.int .u64 (W4 V 0), .int .u64 (W4 V 1), .int .u64 (W4 V 2), .int .u64 (W4 V 3)] 24)).cell (p := ⟨w.heap.size, q, none⟩) hl3
          exact e2.trans e1
        · exact (bnext HB.out HB3.out).alloc (by omega) _
      case measure => simp [intOf]; omega
    · obtain rfl : i = 5 := by omega
      clear K hK
      go_wp2
      go_ret
      exact ⟨rfl, hB⟩
end
theorem hexformBack_any (n : Int) (V : Nat) (w : World) (hT : Tab w) (hT10 : Tb10 w) (hTZ : TbZ w) (hV : V < 2 ^ 256) : Calls Tryz.prog 5 #[.int .i64 n, A4 V] w fun r w' => r = .returned (.bool true) ∧ Below w.heap.size w w' := by
  have c8 := fun W (hW : Below w.heap.size w W) => awake11 W (hT.go hW) (hT10.next hW) (hTZ.next hW)
  by_cases hg : goodN n V
  · obtain ⟨T, _, h1, h2⟩ := xback hV hg
    exact law11_5k n V w hT hT10 hTZ c8 T h1 h2
  · have c13 := fun W => rgood_any n V hV W
    rw [decide_eq_false hg] at c13
    exact law11_5e n V w hT hT10 hTZ c8 (fun W h => xwrite_n hV hg W h) c13
end Go.Proofs.YtplocajjfoiklaaGreatDoor
