/-
  Texts that the proof leans on, joined: Xr, Xs, Sp9, St9, Sw9, Mf, Mn, Xw, Mo, Lift, Lk, Lz.
-/
import Derived.Test.YtplocajjfoiklaaGreatDoorR49
import Derived.Test.YtplocajjfoiklaaGreatDoorR47
import Derived.Test.YtplocajjfoiklaaGreatDoorR29
import Derived.Test.YtplocajjfoiklaaGreatDoorR30
import Derived.Test.YtplocajjfoiklaaGreatDoorR44
import Derived.Test.YtplocajjfoiklaaGreatDoorR41
import Derived.Test.YtplocajjfoiklaaGreatDoorR37
import Derived.Test.YtplocajjfoiklaaGreatDoorR9
import Derived.Laws.BytesArg
import Derived.Shelf.SlicesE.Reverse
import Derived.Test.YtplocajjfoiklaaGreatDoorR19
import Derived.Test.YtplocajjfoiklaaGreatDoorR1
import Derived.Test.YtplocajjfoiklaaGreatDoorR39
import Derived.Test.YtplocajjfoiklaaGreatDoorR34
import Derived.Test.YtplocajjfoiklaaGreatDoorR46
import Derived.Test.YtplocajjfoiklaaGreatDoorR48
import Derived.ProofKit
import Derived.OpenShut
import Derived.Carry
import Derived.Deep.DeepHandedRow
import Derived.Test.YtplocajjfoiklaaGreatDoorR26
import Derived.Test.YtplocajjfoiklaaGreatDoorR3
import Derived.Test.YtplocajjfoiklaaGreatDoorR2
import Derived.Test.YtplocajjfoiklaaGreatDoorRows
import Derived.LaidLaws
import Derived.ChangeMaps5
set_option linter.unusedVariables false
set_option linter.unusedSectionVars false
set_option linter.unusedSimpArgs false
set_option maxHeartbeats 8000000
set_option maxRecDepth 20000
namespace Go.Proofs.YtplocajjfoiklaaGreatDoor
open Go.RowKit
section
attribute [local irreducible] W4
section
variable (n d : Int) (l : List UInt8) (q : Prt) (nm : ByteArray) (wd : Int) (f e : Nat) (lo m : Int) (w : World)
variable (c22 : ∀ W, Calls Tryz.prog 14 #[.int .i64 n] W fun r w' => r = .returned (.bool true) ∧ W = w')
include c22
variable (c15 : ∀ W, Calls Tryz.prog 15 #[.int .i64 d] W fun r w' => r = .returned (.bool true) ∧ W = w')
include c15
end
theorem cut_ex {l : List UInt8} {p : Prt} (h : cutP l = some p) : -9223372036854775808 ≤ p.ex ∧ p.ex ≤ 9223372036854775807 := by
 rcases (cut_good h).2 with ⟨_, _, h⟩ | h | h
 ·omega
 ·obtain ⟨_, _, _, h⟩ := h
  omega
 ·obtain ⟨_, h⟩ := h
  omega
end
def Prt.at (p : Prt) (s : Bool) : Prt := ⟨p.cls, s, p.sn, p.dig, p.ex⟩
/-! Make by value -/
/-! Read by value -/
section
theorem NT.head {K V : Nat} {v : Value} {w : World} (h : NT K V v w) (hV : V ≠ 0) : ∃ g k cap z0, v = .slice (some ⟨g, 0, none⟩) k cap ∧ 0 < k ∧ k ≤ K ∧ g < w.heap.size ∧ w.cell? ⟨g, 0, none⟩ = some (.int .u64 z0) ∧ 0 ≤ z0 ∧ z0 ≤ 18446744073709551615 ∧ z0 % 2 = ((V % 2 : Nat) : Int) := by
 have hz := h.zero
 obtain ⟨g, k, cap, z, rfl, hk, ⟨n1, n2, n3, n4, n5⟩, hv, hs⟩ := h
 obtain ⟨g', k', cap', e, _, hz'⟩ := hz
 cases e
 have hk0 : k ≠ 0 := fun e => hV (hz'.1 e)
 rcases n5 with ⟨n5, _⟩ | ⟨b, off, e, hb, hc⟩
 ·cases n5
 ·cases e
  have hc0 := hc 0 (by omega)
  have hw := n3 0
  have hp := val_odd (by omega : 0 < k) hv
  exact ⟨g, k, cap, z 0, rfl, by omega, hk, hb, hc0, hw.1, hw.2, by omega⟩
attribute [local irreducible] W4 Nz Nt NT NV
end
theorem un_isD {n : Int} {B : Nat} (h : goodN n B) : isD (fN n) (leastN n) (mostN n) (unD n B) := by
 have hF := bin_fm h.1
 obtain ⟨S, E, F, hS, hE, hFr, hB⟩ := fields_in h.2
 have hu : unD n B = mean (fN n) (eN n) (leastN n) S E F := by
  unfold unD; rw [if_pos h, hB, unp_mean _ hS hE hFr]
 rw [hu]
 exact (mean_isD hF hS hE hFr).1
section
def sgL (s : Bool) : List UInt8 := if s then [45] else []
attribute [local irreducible] W4
end
section
attribute [local irreducible] W4
section
variable (n : Int) (V : Nat) (c : Int) (s g : Bool) (x : Int) (k : Nat) (w : World) (hT : Tab w)
include hT
variable (c21 : ∀ W, Tab W → Calls Tryz.prog 21 #[.int .i64 n, A4 V] W fun r w' => r = .returned (.tuple #[DV c s g x k, .int .i64 0]) ∧ Below W.heap.size W w')
include c21
variable (hc : c = 1) (T : List UInt8) (hl : T.length ≤ 1000) (c23 : ∀ W, Below w.heap.size w W → Calls Tryz.prog 23 #[A4 k, .int .i64 x] W fun r w' => r = .returned (.string (B T)) ∧ Below W.heap.size W w')
include hc hl c23
theorem xw_p (hs : s = false) : Calls Tryz.prog 9 #[.int .i64 n, A4 V] w fun r w' => r = .returned (.tuple #[.string (B T), .int .i64 0]) ∧ Below w.heap.size w w' := by
 subst hc hs
 have hsm := cell_set_map
 unfold DV at *
 generalize B T = bT at *
 go_enter Tryz.func9, Tryz.ntmps9
 go_wp2_with (first
  | (go_at_call 21; refine (c21 _ (hT.go bgo)).mono ?_; rintro r w1 ⟨rfl, hb1⟩; obtain ⟨hc1, hf1, hz1_0, hl1_0, hA1, hs1⟩ := wz w hb1 w.heap.size; clear hb1)
  | (go_at_call 23; refine (c23 _ bgo).mono ?_; rintro r w2 ⟨rfl, hb2⟩; obtain ⟨hc2, hf2, hz2_0, hl2_0, hA2, hs2⟩ := wz w hb2 w.heap.size; clear hb2))
 go_ret2
 exact ⟨rfl, bgo⟩
theorem xw_m (hs : s = true) : Calls Tryz.prog 9 #[.int .i64 n, A4 V] w fun r w' => r = .returned (.tuple #[.string (B ([45] ++ T)), .int .i64 0]) ∧ Below w.heap.size w w' := by
 subst hc hs
 have hsm := cell_set_map
 have hsz : (B T).size = T.length := B_size T
 have hli : (T.length : Int) ≤ 1000 := by omega
 have p0 : (⟨#[45]⟩ : ByteArray) ++ B T = B ([45] ++ T) := B_app [45] T
 unfold DV at *
 generalize B ([45] ++ T) = bS at *
 generalize B T = bT at *
 go_enter Tryz.func9, Tryz.ntmps9
 go_wp2_with (first
  | (go_at_call 21; refine (c21 _ (hT.go bgo)).mono ?_; rintro r w1 ⟨rfl, hb1⟩; obtain ⟨hc1, hf1, hz1_0, hl1_0, hA1, hs1⟩ := wz w hb1 w.heap.size; clear hb1)
  | (go_at_call 23; refine (c23 _ bgo).mono ?_; rintro r w2 ⟨rfl, hb2⟩; obtain ⟨hc2, hf2, hz2_0, hl2_0, hA2, hs2⟩ := wz w hb2 w.heap.size; clear hb2))
 go_ret2
 exact ⟨rfl, bgo⟩
end
theorem hwT_len (k : Nat) {x : Int} (hk : bl k ≤ 241) (hx : -40000 ≤ x ∧ x ≤ 40000) : (hwT k x).length ≤ 200 := by
 unfold hwT
 split
 ·decide
 ·unfold hbT
  have h1 := (hbD_facts k).2.1
  have h2 : hbC k ≤ 61 := by unfold hbC; omega
  have h3 := itoa_short (e := x + bl k - 1) (by omega)
  rw [List.length_append, List.length_append, List.length_append, List.length_append]
  split <;> split <;> simp <;> omega
section
variable {n : Int} {V : Nat} (hV : V < 2 ^ 256) (hg : goodN n V) (w : World) (hT : Tab w) (hT10 : Tb10 w)
include hV hg hT hT10
theorem xwrite_f (hTZ : TbZ w) (hc : (unD n V).c = 1) : Calls Tryz.prog 9 #[.int .i64 n, A4 V] w fun r w' => r = .returned (.tuple #[.string (B (sgL (unD n V).s ++ hwT (unD n V).k (unD n V).x)), .int .i64 0]) ∧ Below w.heap.size w w' := by
 have c21 := fun W (hW : Tab W) => unpack_any n V W hW hV
 rw [show unE n V = 0 from if_pos hg] at c21
 obtain ⟨hkb, hxb⟩ : bl (unD n V).k ≤ 241 ∧ (-40000 ≤ (unD n V).x ∧ (unD n V).x ≤ 40000) := by
  have hf := (bin_fm hg.1).f240
  rcases un_isD hg with ⟨e1, e2, e3, e4, e5, e6⟩ | ⟨e1, _⟩ | ⟨e1, _⟩
  ·have hx := bin_x hg.1 e4 e5
   have := bl_le.2 e3
   exact ⟨by omega, by omega, by omega⟩
  ·omega
  ·omega
 have c23 := fun W (hW : Below w.heap.size w W) => hun_v (unD n V).x W (hTZ.next hW) (hT10.next hW) hkb hxb
 have hlen := hwT_len (unD n V).k hkb hxb
 cases hs : (unD n V).s
 ·exact xw_p n V _ _ _ _ _ w hT c21 hc (hwT (unD n V).k (unD n V).x) (by omega) c23 hs
 ·exact xw_m n V _ _ _ _ _ w hT c21 hc (hwT (unD n V).k (unD n V).x) (by omega) c23 hs
end
end
section
theorem half_un : unD 3 1069547520 = ⟨1, false, false, -23, 12582912⟩ := by kernel_rfl
theorem half_text : hwT 12582912 (-23) = [48, 120, 49, 46, 56, 112, 43, 48] := by decide +kernel
theorem A4_half : A4 1069547520 = .agg #[.int .u64 1069547520, .int .u64 0, .int .u64 0, .int .u64 0] := by unfold A4; rw [show W4 1069547520 0 = 1069547520 by decide, show W4 1069547520 1 = 0 by decide, show W4 1069547520 2 = 0 by decide, show W4 1069547520 3 = 0 by decide]
attribute [local irreducible] W4
theorem awake11 (w : World) (hT : Tab w) (hT10 : Tb10 w) (hTZ : TbZ w) : Calls Tryz.prog 8 #[] w fun r w' => r = .returned (.bool true) ∧ Below w.heap.size w w' := by
 have hg : goodN 3 1069547520 := by decide
 have c9 := fun W (h1 : Tab W) (h2 : Tb10 W) (h3 : TbZ W) => xwrite_f (n := 3) (V := 1069547520) (by decide) hg W h1 h2 h3 (by rw [half_un])
 rw [half_un, half_text, A4_half] at c9
 have eb : B (sgL false ++ [48, 120, 49, 46, 56, 112, 43, 48]) = ⟨#[48, 120, 49, 46, 56, 112, 43, 48]⟩ := rfl
 have c10 : ∀ W, Tab W → Tb10 W → TbZ W → Calls Tryz.prog 9 #[.int .i64 3, .agg #[.int .u64 1069547520, .int .u64 0, .int .u64 0, .int .u64 0]] W fun r w' => r = .returned (.tuple #[.string ⟨#[48, 120, 49, 46, 56, 112, 43, 48]⟩, .int .i64 0]) ∧ Below W.heap.size W w' := c9
 clear c9
 go_enter Tryz.func8, Tryz.ntmps8
 go_wp2_with (go_at_call 9; refine (c10 _ (hT.go bgo) (hT10.next bgo) (hTZ.next bgo)).mono ?_; rintro r w1 ⟨rfl, hb1⟩)
 go_ret
 exact ⟨rfl, hb1⟩
section
variable (n : Int) (V : Nat) (w : World) (hT : Tab w) (hT10 : Tb10 w) (hTZ : TbZ w)
 (c8 : ∀ W, Below w.heap.size w W → Calls Tryz.prog 8 #[] W fun r w' => r = .returned (.bool true) ∧ Below W.heap.size W w')
include hT hT10 hTZ c8
end
end
theorem pre_len {l p : List UInt8} (h : Lib.hasPrefix l p = true) : (Lib.trimPrefix l p).length + p.length = l.length := by
 have hp : p <+: l := List.isPrefixOf_iff_prefix.1 h
 obtain ⟨t, rfl⟩ := hp
 unfold Lib.trimPrefix
 rw [if_pos h]
 simp
 omega
theorem sgR_len (l : List UInt8) : (sgR l).length + (if gsgB l then 1 else 0) ≤ l.length := by
 cases l with
 | nil => exact Nat.le_refl _
 | cons c r =>
  show (if (c.toNat : Int) = 45 ∨ (c.toNat : Int) = 43 then r else c :: r).length + (if decide ((c.toNat : Int) = 45) = true then 1 else 0) ≤ _
  by_cases h : (c.toNat : Int) = 45
  ·rw [if_pos (Or.inl h), if_pos (decide_eq_true h)]
   exact Nat.le_refl _
  ·rw [decide_eq_false h, if_neg (show ¬ (false = true) by decide)]
   split <;> simp
theorem oth_jn {l : List UInt8} {p : Prt} (h : cutP l = some p) (hp : p.cls ≠ 1) : gdP p := by
 obtain ⟨hg, hc⟩ := cut_good h
 rcases hc with ⟨h1, _⟩ | ⟨h1, h2, h3, h4⟩ | ⟨h1, h2⟩
 ·exact absurd h1 hp
 ·exact ⟨hg, Or.inr (Or.inl ⟨h1, h2, h3, h4⟩)⟩
 ·refine ⟨hg, Or.inr (Or.inr ⟨h1, h2, ?_⟩)⟩
  unfold cutP at h
  split at h
  ·cases h
  ·rename_i hl
   have hs := sgR_len l
   unfold bodP at h
   split at h
   ·cases h; exact absurd rfl hp
   ·split at h
    ·cases h; exact absurd h1 (show ¬ (2 : Int) = 3 by decide)
    ·split at h
     ·rename_i hn
      cases h
      have hsm : (sml (sgR l)).length = (sgR l).length := sml_len _
      generalize sml (sgR l) = x at *
      unfold nanB at hn
      rw [Bool.and_eq_true] at hn
      obtain ⟨n1, n2⟩ := hn
      have q1 := pre_len n1
      have q2 : (Lib.trimPrefix x [115]).length + (if Lib.hasPrefix x [115] = true then 1 else 0) = x.length := by
       split
       ·rename_i hh
        exact pre_len hh
       ·rename_i hh
        unfold Lib.trimPrefix
        rw [if_neg hh]
        rfl
      show ((if gsgB l then [45] else []) ++ nanT (Lib.hasPrefix x [115]) (bar (paD (nanR x)))).length ≤ 4000
      have q3 : (if bar (paD (nanR x)) = [] then 0 else (bar (paD (nanR x))).length + 2) ≤ (nanR x).length := by
       split
       ·exact Nat.zero_le _
       ·rename_i hb
        unfold paB at n2
        rw [Bool.or_eq_true] at n2
        rcases n2 with n2 | n2
        ·exfalso
         apply hb
         have : nanR x = [] := List.isEmpty_iff.1 n2
         rw [this]
         rfl
        ·simp only [Bool.and_eq_true] at n2
         obtain ⟨m1, m2, m3⟩ := n2
         have m4 : rst (Lib.trimPrefix (nanR x) [40]) = [41] := eq_of_beq m3
         have m5 := pre_len m1
         have m6 := congrArg List.length (dgs_rst (Lib.trimPrefix (nanR x) [40]))
         rw [List.length_append, m4] at m6
         have m7 : paD (nanR x) = dgs (Lib.trimPrefix (nanR x) [40]) := if_pos m1
         have m8 := bar_le (paD (nanR x))
         rw [m7] at m8 ⊢
         simp at m5 m6
         omega
      unfold nanT nanR at *
      generalize bar (paD (Lib.trimPrefix (Lib.trimPrefix x [115]) [110, 97, 110])) = D at *
      rw [List.length_append, List.length_append, List.length_append]
      have e0 : ([110, 97, 110] : List UInt8).length = 3 := rfl
      rw [e0] at q1 ⊢
      have e1 : (if gsgB l = true then [45] else ([] : List UInt8)).length = (if gsgB l = true then 1 else 0) := by split <;> rfl
      have e2 : (if Lib.hasPrefix x [115] = true then [115] else ([] : List UInt8)).length = (if Lib.hasPrefix x [115] = true then 1 else 0) := by split <;> rfl
      have e3 : (if D = [] then [] else 40 :: (D ++ [41])).length = (if D = [] then 0 else D.length + 2) := by
       split
       ·rfl
       ·simp
      rw [e1, e2, e3]
      omega
     ·cases h
theorem text_o {c : Int} (s g : Bool) (d : List UInt8) (e : Int) (w : World) (hc : c = 2 ∨ c = 3) (hd : d.length < 100000) :
  Calls Tryz.prog 144 #[PV c s g d e] w fun x w' => x = .returned (.string (B (texT c s g d e))) ∧ Below w.heap.size w w' := by
 unfold texT bodT
 rcases hc with rfl | rfl
 ·rw [if_pos rfl]
  cases s
  ·exact text_f2 g d e w hd
  ·exact text_t2 g d e w hd
 ·rw [if_neg (show ¬ (3 : Int) = 2 by decide), if_pos rfl]
  cases s
  ·exact text_f3 g d e w hd
  ·exact text_t3 g d e w hd
theorem join_o (p : Prt) (w : World) (hc : p.cls = 2 ∨ p.cls = 3) (he : -9223372036854775808 ≤ p.ex ∧ p.ex ≤ 9223372036854775807) (h : jnP p) :
  Calls Tryz.prog 88 #[p.v] w fun x w' => x = .returned (.tuple #[.string (B (texT p.cls p.sg p.sn p.dig p.ex)), .int .i64 0]) ∧ Below w.heap.size w w' := by
 obtain ⟨e1, e2⟩ := cutE_some h.2
 have c9 := fun W => cut_any (texT p.cls p.sg p.sn p.dig p.ex) W (by have := texT_len (c := p.cls) (s := p.sg) (g := p.sn) h.1 he; omega)
 rw [e1, e2] at c9
 exact join_ok _ _ _ _ _ w h.1 _ (fun W hW => text_o _ _ _ _ W hc (by have := h.1; omega)) c9
theorem rtext_o (s g : Bool) (d : List UInt8) (e : Int) (w : World) (hd : d.length < 100000) :
  Calls Tryz.prog 62 #[PV 3 s g d e] w fun x w' => x = .returned (.string (B (texT 3 s g d e))) ∧ Below w.heap.size w w' := by
 by_cases h0 : d = []
 ·subst h0
  cases s <;> cases g
  ·exact rx3_ff0 e w
  ·exact rx3_ft0 e w
  ·exact rx3_tf0 e w
  ·exact rx3_tt0 e w
 ·obtain ⟨y, ys, rfl⟩ : ∃ y ys, d = y :: ys := by cases d with | nil => exact absurd rfl h0 | cons y ys => exact ⟨y, ys, rfl⟩
  have hx : ys.length < 100000 := by rw [List.length_cons] at hd; omega
  have q : ∀ s g, texT 3 s g (y :: ys) e = (if s then [45] else []) ++ ((if g then [115] else []) ++ ([110, 97, 110] ++ (40 :: ((y :: ys) ++ [41])))) := fun s g => by
   show _ ++ nanT g (y :: ys) = _
   unfold nanT; rw [if_neg h0]
  rw [q]
  cases s <;> cases g
  ·have := rx3_ff1 y ys hx e w; simpa using this
  ·have := rx3_ft1 y ys hx e w; simpa using this
  ·have := rx3_tf1 y ys hx e w; simpa using this
  ·have := rx3_tt1 y ys hx e w; simpa using this
theorem good_o (p : Prt) (w : World) (hc : p.cls ≠ 1) (hd : p.dig.length < 100000) (h : gdP p) :
  Calls Tryz.prog 95 #[p.v] w fun x w' => x = .returned (.bool true) ∧ Below w.heap.size w w' := by
 obtain ⟨c, s, g, d, e⟩ := p
 obtain ⟨hg, h⟩ := h
 show Calls Tryz.prog 95 #[PV c s g d e] w _
 dsimp only at hd hg h hc
 cases d with
 | nil =>
  rcases h with ⟨h1, _⟩ | ⟨rfl, rfl, _, rfl⟩ | ⟨rfl, rfl, h4⟩
  ·exact absurd h1 hc
  ·exact gd_2yn s w
  ·exact gd_3yn s g _ (by omega) w (fun W _ => rtext_o s g [] 0 W hd)
 | cons y ys =>
  have hx : ys.length < 100000 := by rw [List.length_cons] at hd; omega
  rcases hg with hg | ⟨hi, hy⟩
  ·cases hg
  ·rcases h with ⟨h1, _⟩ | ⟨rfl, rfl, h3, rfl⟩ | ⟨rfl, rfl, h4⟩
   ·exact absurd h1 hc
   ·cases h3
   ·exact gd_3yg s g y ys hx hi (head_ne hy) _ (by omega) w (fun W _ => rtext_o s g (y :: ys) 0 W hd)
theorem makes_other (n d : Int) (p : Prt) (hg : binN n ∧ knB d) (hp : p.cls ≠ 1) (hgd : gdP p) (hl : p.dig.length < 100000) (he : -9223372036854775808 ≤ p.ex ∧ p.ex ≤ 9223372036854775807) :
  ∃ V F E, (∀ W, Tab W → Tb10 W → Calls Tryz.prog 37 #[.int .i64 n, .int .i64 d, p.v] W fun r w' => r = .returned (.tuple #[A4 V, .int .i64 F, .int .i64 E]) ∧ Below W.heap.size W w') ∧
   (∀ W, Tb10 W → Calls Tryz.prog 41 #[.int .i64 n, .int .i64 d, p.v] W fun r w' => r = .returned (.tuple #[A4 V, .int .i64 F, .int .i64 E]) ∧ Below W.heap.size W w') := by
 ·have hb := hg.1
  have hk := hg.2
  have c28 := fun W (hT : Tab W) => rck_good n d W hT hg
  have c22 := fun W => bin_true hb W
  have c15 := fun W => dir_true hk W
  have c25 := fun W => rof_bin hb W
  have hj := jn_of_gd hgd
  ·have hl4 := hj.1
   obtain ⟨hdD, hcls⟩ := id hgd
   have HC : p.cls = 2 ∨ p.cls = 3 := by
    rcases hcls with ⟨h, _⟩ | ⟨h, _⟩ | ⟨h, _⟩
    ·exact absurd h hp
    ·exact Or.inl h
    ·exact Or.inr h
   have hall := gdD_all hdD
   obtain ⟨fl1, fl2, fl3, fl4, fl5⟩ := fld_bd hb
   have hf2 := fN_ge hb
   rcases hcls with ⟨hc, hsn, hx, _⟩ | ⟨hc, hsn, hd0, hx0⟩ | ⟨hc, hx0, _⟩
   ·exact absurd hc hp
   ·have hi : isD (fN n) (leastN n) (mostN n) ⟨2, p.sg, false, 0, 0⟩ := Or.inr (Or.inl ⟨rfl, rfl, rfl, rfl⟩)
    have hE : pkE n ⟨2, p.sg, false, 0, 0⟩ = 0 := by unfold pkE; rw [if_pos hb, if_pos hi]
    have c34 := fun W hT => pack_any n ⟨2, p.sg, false, 0, 0⟩ W hT (show 0 < 2 ^ 256 by decide)
    have c36 := fun W => rpack_any n ⟨2, p.sg, false, 0, 0⟩ W (show 0 < 2 ^ 256 by decide)
    rw [show (Dat.v ⟨2, p.sg, false, 0, 0⟩) = _ from DV_zero 2 p.sg false 0, hE] at c34 c36
    refine ⟨pkV n ⟨2, p.sg, false, 0, 0⟩, 0, 0, fun W hT hT10 => ?_, fun W hT10 => ?_⟩
    ·exact make_2 n d p.cls p.sg p.sn p.dig p.ex _ _ _ _ _ _ _ W hT c28 (fun W' hW' => join_o p W' HC he hj) hc _ _ (by rw [hsn]; exact c34)
    ·exact rmk_2 n d p.cls p.sg p.sn p.dig p.ex _ _ _ _ _ _ W c22 c15 (fun W' hW' => good_o p W' hp hl hgd) c25 hc _ _ c36
   ·have hi := pl_isD (l := leastN n) (m := mostN n) p.sg p.sn (dV p.dig) hf2
    have hE : pkE n ⟨3, p.sg, p.sn, 0, plV (fN n) p.sn (dV p.dig)⟩ = 0 := by unfold pkE; rw [if_pos hb, if_pos hi]
    have hlt := plV_lt (f := fN n) (A := dV p.dig) p.sn fl4
    have c34 := fun W hT => pack_any n ⟨3, p.sg, p.sn, 0, plV (fN n) p.sn (dV p.dig)⟩ W hT hlt
    have c36 := fun W => rpack_any n ⟨3, p.sg, p.sn, 0, plV (fN n) p.sn (dV p.dig)⟩ W hlt
    rw [hE] at c34 c36
    refine ⟨pkV n ⟨3, p.sg, p.sn, 0, plV (fN n) p.sn (dV p.dig)⟩, 0, 0, fun W hT hT10 => ?_, fun W hT10 => ?_⟩
    ·exact make_3 n d p.cls p.sg p.sn p.dig p.ex _ _ _ _ _ _ _ W hT c28 (fun W' hW' => join_o p W' HC he hj) hc _ _ _ (fun W' => payload8 _ _ _ _ _ _ _ 3 p.sg p.sn p.dig p.ex W' fl4 hall hl4) c34
    ·refine rmk_3 n d p.cls p.sg p.sn p.dig p.ex _ _ _ _ _ _ W c22 c15 (fun W' hW' => good_o p W' hp hl hgd) c25 hc 50000 _ (2 ^ (fN n - 1)) _ _ (fun W' => ?_) (fun W' v hv => rpayload8 3 p.sg p.sn p.dig p.ex (fN n) 50000 v W' (by decide) ⟨fl4, fl5⟩ hall hl4 hv) c36
     have := rpow_nv (fN n - 1) W' (by omega)
     rw [show (((fN n - 1 : Nat)) : Int) = (fN n : Int) - 1 by omega] at this
     exact this
section
theorem hx_same (n d : Int) (l : List UInt8) (hl : l.length ≤ 10000) :
  ∃ V F E, (∀ W, Tab W → Tb10 W → Calls Tryz.prog 11 #[.int .i64 n, .int .i64 d, .string (B l)] W fun r w' => r = .returned (.tuple #[A4 V, .int .i64 F, .int .i64 E]) ∧ Below W.heap.size W w') ∧
   (∀ W, Tb10 W → Calls Tryz.prog 12 #[.int .i64 n, .int .i64 d, .string (B l)] W fun r w' => r = .returned (.tuple #[A4 V, .int .i64 F, .int .i64 E]) ∧ Below W.heap.size W w') := by
 by_cases hbd : binN n ∧ knB d
 ·obtain ⟨hb, hd⟩ := hbd
  by_cases hl4 : 4000 < l.length
  ·refine ⟨0, 0, 4, fun W hT _ => ?_, fun W _ => ?_⟩
   ·rw [A4_zero]; exact xread_l W hT hb hd hl4 hl
   ·rw [A4_zero]; exact hread_l W hb hd hl4 hl
  ·have hl4' : l.length ≤ 4000 := by omega
   by_cases ht : (sgR (sml l)).take 2 = [48, 120]
   ·obtain ⟨a, ha⟩ : ∃ a, sgR (sml l) = 48 :: 120 :: a := by
     refine ⟨(sgR (sml l)).drop 2, ?_⟩
     have := List.take_append_drop 2 (sgR (sml l))
     rw [ht] at this
     exact this.symm
    have h1 := fun W (hT : Tab W) => xread_x W hT hb hd hl4' a ha
    have h2 := fun W => hread_x W hb hd hl4' a ha
    cases hx : hxR a with
    | none =>
     rw [hx] at h1 h2
     refine ⟨0, 0, 2, fun W hT _ => ?_, fun W _ => ?_⟩
     ·rw [A4_zero]; exact h1 W hT
     ·rw [A4_zero]; exact h2 W
    | some NX =>
     obtain ⟨N, X⟩ := NX
     rw [hx] at h1 h2
     have hN := hxR_bl hx (by
      have e1 := sgR_le (sml l)
      rw [ha, List.length_cons, List.length_cons, sml_len] at e1
      omega)
     obtain ⟨e1, e2⟩ := do_eq (n := n) d (gsgB (sml l)) N (D := 1) X hb (by decide) (by omega) (by decide)
     dsimp only at h1 h2
     rw [e1, e2] at h2
     exact ⟨_, _, 0, fun W hT _ => h1 W hT, fun W _ => h2 W⟩
   ·cases hcut : cutP l with
    | none =>
     have hc : ∀ p, cutP l = some p → p.cls = 1 := fun p hp => by rw [hcut] at hp; cases hp
     refine ⟨0, 0, 2, fun W hT _ => ?_, fun W _ => ?_⟩
     ·rw [A4_zero]; exact xread_f W hT hb hd hl4' ht hc
     ·rw [A4_zero]; exact hread_n W hb hd hl4' ht hc
    | some p =>
     by_cases hp : p.cls = 1
     ·have hc : ∀ q, cutP l = some q → q.cls = 1 := fun q hq => by rw [hcut] at hq; cases hq; exact hp
      refine ⟨0, 0, 2, fun W hT _ => ?_, fun W _ => ?_⟩
      ·rw [A4_zero]; exact xread_f W hT hb hd hl4' ht hc
      ·rw [A4_zero]; exact hread_n W hb hd hl4' ht hc
     ·obtain ⟨V, F, E, m1, m2⟩ := makes_other n d p ⟨hb, hd⟩ hp (oth_jn hcut hp) (Nat.lt_of_le_of_lt (cut_dlen hcut) (by omega)) (cut_ex hcut)
      exact ⟨V, F, E, fun W hT hT10 => xread_o W hT hb hd hl4' ht hcut hp V F E (fun W' hW' => m1 W' (hT.go hW') (hT10.next hW')), fun W hT10 => hread_o W hb hd hl4' ht hcut hp V F E (fun W' hW' => m2 W' (hT10.next hW'))⟩
 ·refine ⟨0, 0, 1, fun W hT _ => ?_, fun W _ => ?_⟩
  ·rw [A4_zero]; exact xread_a W hT hbd
  ·rw [A4_zero]; exact hread_a W hbd
section
variable (n d : Int) (l : List UInt8) (w : World) (hT : Tab w) (hT10 : Tb10 w) (hTZ : TbZ w)
include hT hT10 hTZ
theorem law11_4l (h : (10000 : Int) < (B l).size) :
  Calls Tryz.prog 4 #[.int .i64 n, .int .i64 d, .string (B l)] w fun r w' => r = .returned (.bool true) ∧ Below w.heap.size w w' := by
 have c9 := awake11
 have hB : Below w.heap.size w w := Below.refl _ _
 go_enter Tryz.func4, Tryz.ntmps4
 go_wp2_with (first | (go_at_call 8; refine (c9 _ (hT.go hB) (hT10.next hB) (hTZ.next hB)).mono ?_; rintro r w1 ⟨rfl, hb1⟩; replace hB := bnext hB hb1; clear hb1))
 go_ret
 exact ⟨rfl, hB⟩
attribute [local irreducible] W4
theorem law11_4k (h : ¬ (10000 : Int) < (B l).size) (V : Nat) (F E : Int)
  (c10 : ∀ W, Tab W → Tb10 W → Calls Tryz.prog 11 #[.int .i64 n, .int .i64 d, .string (B l)] W fun r w' => r = .returned (.tuple #[A4 V, .int .i64 F, .int .i64 E]) ∧ Below W.heap.size W w')
  (c11 : ∀ W, Tb10 W → Calls Tryz.prog 12 #[.int .i64 n, .int .i64 d, .string (B l)] W fun r w' => r = .returned (.tuple #[A4 V, .int .i64 F, .int .i64 E]) ∧ Below W.heap.size W w') :
  Calls Tryz.prog 4 #[.int .i64 n, .int .i64 d, .string (B l)] w fun r w' => r = .returned (.bool true) ∧ Below w.heap.size w w' := by
 have c9 := awake11
 have hself := A4_self V
 have hsm := cell_set_map
 generalize B l = bl0 at *
 go_enter Tryz.func4, Tryz.ntmps4
 go_wp2_with (first
  | (go_at_call 8; refine (c9 _ (hT.go bgo) (hT10.next bgo) (hTZ.next bgo)).mono ?_; rintro r w1 ⟨rfl, hb1⟩; obtain ⟨hc1, hf1, hA1, hs1⟩ := wf w hb1; clear hb1)
  | (go_at_call 11; refine (c10 _ (hT.go bgo) (hT10.next bgo)).mono ?_; rintro r w2 ⟨rfl, hb2⟩; obtain ⟨hc2, hf2, hA2, hs2⟩ := wf w hb2; clear hb2)
  | (go_at_call 12; refine (c11 _ (hT10.next bgo)).mono ?_; rintro r w3 ⟨rfl, hb3⟩; obtain ⟨hc3, hf3, hz3_0, hl3_0, hA3, hs3⟩ := wz w hb3 w2.heap.size; clear hb3))
 go_ret
 exact ⟨by simp, bgo⟩
end
theorem hexformReads_any (n d : Int) (s : ByteArray) (w : World) (hT : Tab w) (hT10 : Tb10 w) (hTZ : TbZ w) :
  Calls Tryz.prog 4 #[.int .i64 n, .int .i64 d, .string s] w fun r w' => r = .returned (.bool true) ∧ Below w.heap.size w w' := by
 rw [← B_of s]
 generalize s.data.toList = l
 by_cases h : (10000 : Int) < (B l).size
 ·exact law11_4l n d l w hT hT10 hTZ h
 ·obtain ⟨V, F, E, h1, h2⟩ := hx_same n d l (by rw [B_size] at h; omega)
  exact law11_4k n d l w hT hT10 hTZ h V F E h1 h2
end
end Go.Proofs.YtplocajjfoiklaaGreatDoor

namespace Go.Proofs.YtplocajjfoiklaaGreatDoor
open Go.ChangeShapes Go.WideShapes Go.ChangeAt Go.RowKit
theorem Tryz.own : ownKnob Tryz.prog.godebug = none := by kernel_rfl
def tabCells : Array Value := ((List.range 12).flatMap fun i => (List.range 4).map fun k => rowV i k).toArray
def layCells (c : Array Value) : Obj → Obj
 | .cells _ t frozen => .cells c t frozen
 | o => o
end Go.Proofs.YtplocajjfoiklaaGreatDoor

set_option maxRecDepth 100000
namespace Go.Proofs.YtplocajjfoiklaaGreatDoor
open Go.ChangeShapes Go.WideShapes Go.ChangeAt Go.RowKit
def firstCells : Array Value := (((List.replicate 128 240 ++ List.replicate 66 241 ++ List.replicate 30 2 ++ [19] ++ List.replicate 12 3 ++ [35] ++ List.replicate 2 3 ++ [52] ++ List.replicate 3 4 ++ [68] ++ List.replicate 11 241 : List Int)).map fun n => Value.int .u8 n).toArray
def rangeCells : Array Value := ((([128, 191, 160, 191, 128, 159, 144, 191, 128, 143] ++ List.replicate 22 0 : List Int)).map fun n => Value.int .u8 n).toArray
def db32Cells : Array Value := (([0, 1, 28, 2, 29, 14, 24, 3, 30, 22, 20, 15, 25, 17, 4, 8, 31, 27, 13, 23, 21, 19, 16, 7, 26, 12, 18, 6, 11, 5, 10, 9] : List Int).map fun n => Value.int .u8 n).toArray
def db64Cells : Array Value := ((([0, 1, 56, 2, 57, 49, 28, 3, 61, 58, 42, 50, 38, 29, 17, 4, 62, 47, 59, 36, 45, 43, 51, 22, 53, 39, 33, 30, 24, 18, 12, 5] ++ [63, 55, 48, 27, 60, 41, 37, 16, 46, 35, 44, 21, 52, 32, 23, 11, 54, 26, 40, 15, 34, 20, 31, 10, 25, 14, 19, 9, 13, 8, 7, 6] : List Int)).map fun n => Value.int .u8 n).toArray
def pow10Cells : Array Value := ((List.range 20).map fun k => Value.int .u64 ((10 ^ k : Nat) : Int)).toArray
noncomputable def laidWorld8 (os : Os) : World :=
 { World.holding Tryz.prog os ⟨#[], #[], []⟩ with heap := ((((((World.holding Tryz.prog os ⟨#[], #[], []⟩).heap.modify 0 (layCells tabCells)).modify 3 (layCells pow10Cells)).modify 6 (layCells db32Cells)).modify 7 (layCells db64Cells)).modify 8 (layCells firstCells)).modify 9 (layCells rangeCells) }
theorem laid_tail {P : Program} {W : World} {x : String × DataW Unit} {r : List (String × DataW Unit)} (h : laidMet P (x :: r) W) : laidMet P r W := by
 obtain ⟨ps, ⟨g, t, cs, fuel, p, q, _, _, _, _, hr, rfl⟩, hn, hc⟩ := h
 refine ⟨q, hr, ?_, fun b off hm => hc b off (by simp [hm])⟩
 exact (List.nodup_append.1 hn).2.1
theorem pw10_of_list {W : World} {x y : String × DataW Unit} {r : List (String × DataW Unit)} (h : laidMet Tryz.prog (x :: y :: ("internal/strconv.uint64pow10", Lib.tabData .u64 Lib.pow10Tab) :: r) W) : Tb10 W :=
 Lib.tabIs_of_head (P := Tryz.prog) (name := "internal/strconv.uint64pow10") (k := .u64) (zs := Lib.pow10Tab) (g := 3) (t := 222) (e := 22) (n := 20) (by kernel_rfl) (by kernel_rfl) (by kernel_rfl) (by kernel_rfl) (by kernel_rfl) (by kernel_rfl) (laid_tail (laid_tail h))
section
variable {H : Type} {enc : TypeId × Value → H} {W : World} {r : Reach} {base b : Nat} {sp : Nat → Bool} {held : Bool} {t : TypeId} {n : Nat} {v : Value} {d : DataW H} {p : List MemPlace}
end
end Go.Proofs.YtplocajjfoiklaaGreatDoor

namespace Go.Proofs.YtplocajjfoiklaaGreatDoor
open Go.ChangeShapes Go.WideShapes Go.ChangeAt Go.RowKit
def rangeText : List UInt8 := [118, 97, 108, 117, 101, 32, 111, 117, 116, 32, 111, 102, 32, 114, 97, 110, 103, 101]
def formText : List UInt8 := [105, 110, 118, 97, 108, 105, 100, 32, 115, 121, 110, 116, 97, 120]
noncomputable def laidWorld9 (os : Os) : World :=
 { laidWorld8 os with heap := ((((laidWorld8 os).heap.modify 5 (layCells #[.iface 259 (.pointer (some ⟨(laidWorld8 os).heap.size, 0, none⟩))])).modify 4 (layCells #[.iface 259 (.pointer (some ⟨(laidWorld8 os).heap.size + 1, 0, none⟩))])).push (.cells #[.string ⟨rangeText.toArray⟩] 261)).push (.cells #[.string ⟨formText.toArray⟩] 261) }
theorem tz_of_list {W : World} {x : String × DataW Unit} {r : List (String × DataW Unit)} (h : laidMet Tryz.prog (x :: ("math/bits.deBruijn64tab", Lib.tabData .u8 tzTab) :: r) W) : TbZ W :=
 Lib.tabIs_of_head (P := Tryz.prog) (name := "math/bits.deBruijn64tab") (k := .u8) (zs := tzTab) (g := 7) (t := 254) (e := 5) (n := 64) (by kernel_rfl) (by kernel_rfl) (by kernel_rfl) (by kernel_rfl) (by kernel_rfl) (by kernel_rfl) (laid_tail h)
theorem tab_of_list6 {W : World} {x0 x1 x2 x3 x4 x5 : String × DataW Unit} {r : List (String × DataW Unit)} (h : laidMet Tryz.prog (x0 :: x1 :: x2 :: x3 :: x4 :: x5 :: ("caliper/desc.rows", Rows.laid_caliper_desc_rows) :: r) W) : Tab W :=
 tab_of_laid (laid_tail (laid_tail (laid_tail (laid_tail (laid_tail (laid_tail h))))))
end Go.Proofs.YtplocajjfoiklaaGreatDoor
