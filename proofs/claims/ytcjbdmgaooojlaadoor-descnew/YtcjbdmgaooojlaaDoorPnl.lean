/-
  The law DescNew: it returns true.
-/
import Derived.Test.YtcjbdmgaooojlaaDoorRg4
set_option linter.unusedVariables false
set_option linter.unusedSimpArgs false
set_option maxRecDepth 20000
namespace Go.Proofs.YtcjbdmgaooojlaaDoor
open Go.RowKit

/-- k cells of words, which may be written -/
structure Cw (b k : Nat) (w : World) : Prop where
  lt : b < w.heap.size
  cell : ∀ i, i < k → ∃ v, w.cell? ⟨b, i, none⟩ = some (.int .u64 v)
  loose : ∀ i, w.frozen? ⟨b, i, none⟩ = false
theorem Cw.set {b k : Nat} {w : World} (h : Cw b k w) (i : Nat) (v : Int) : Cw b k (w.setCell ⟨b, i, none⟩ (.int .u64 v)) := by
  refine ⟨Nat.lt_of_lt_of_le h.lt (keep_set w b _ _).size, fun j hj => ?_, fun j => by rw [World.frozen?_setCell]; exact h.loose j⟩
  obtain ⟨u, hu⟩ := h.cell j hj
  by_cases e : i = j
  · subst e; exact ⟨v, World.cell?_setCell_same _ _ _ hu⟩
  · exact ⟨u, (set_other w b i j _ e).trans hu⟩
theorem Cw.of {b k c : Nat} {x : Nat → Int} {w : World} (h : Num w (some ⟨b, 0, none⟩) k c x) (hf : ∀ i, w.frozen? ⟨b, i, none⟩ = false) : Cw b k w := by
  refine ⟨num_lt h, fun i hi => ?_, hf⟩
  obtain ⟨_, _, _, _, h5⟩ := h
  rcases h5 with ⟨h5, _⟩ | ⟨b', o', e, hb, hc⟩
  · cases h5
  · cases e
    exact ⟨x i, by have := hc i hi; rwa [Nat.zero_add] at this⟩
theorem Ans.loose {g : Nat} {n : Int} {w w' : World} {b : Nat} (h : Ans g n w w' b) : ∀ i, w'.frozen? ⟨b, i, none⟩ = false := by
  obtain ⟨_, _, _, _, _, _, h⟩ := h
  exact h
theorem Ans.upd {g : Nat} {n : Int} {w w1 w' : World} {b : Nat} (h : Ans g n w w1 b) (hU : Upd b w1 w') : Rdy g n w' ∧ w.grownBy w' (some g) ∧ (Rdy g n w → Below w.heap.size w w') := by
  obtain ⟨w2, h1, h2, h0, h3, h4, _⟩ := h
  have hb : Below w2.heap.size w2 w' := h3.trans (hU.below h4)
  refine ⟨h1.next hb, keep_trans h2 (keep_of_below hb), fun hr => ?_⟩
  have e := h0 hr
  subst e
  exact hb

set_option maxHeartbeats 4000000 in
theorem descNew_any (z0 : Int) (hz : 0 ≤ z0 ∧ z0 ≤ 255) (z1 : Int) (hz1 : 0 ≤ z1 ∧ z1 ≤ 255) (w : World) (hT : Tab w) :
    Calls Tryd.prog 8 #[.int .u8 z0, .int .u8 z1] w fun e w' => e = .returned (.bool true) ∧ Below w.heap.size w w' := by
  obtain ⟨m, rfl⟩ := Int.eq_ofNat_of_zero_le hz1.1
  obtain ⟨N, hNe⟩ : ∃ N, 1 + z0 % 12 = N := ⟨_, rfl⟩
  have hN : okN N := by unfold okN; omega
  have hm : m ≤ 12000 := by omega
  have c18 := fun w hT => newp_any N w hT hN
  have c19 := fun g w h => power_ok g N m w hN h hm
  have c22 := fun g w h => greatest_any g N w hN h
  go_enter Tryd.func8, Tryd.ntmps8
  go_wp2_with (first
    | (go_at_call 9; refine (awake_any _ hT).mono ?_; rintro e wa ⟨rfl, hA⟩; have hTa := hT.go hA)
    | (go_at_call_of 19 (Value.pointer none); refine (power_nil _ _).mono ?_; rintro e wb ⟨rfl, rfl⟩)
    | (go_at_call 18; refine (c18 _ hTa).mono ?_; rintro e wc ⟨g, rfl, hF, hga, hb⟩; have hgw := Nat.le_trans hA.size hga; replace hA := hA.trans (hb.mono hA.size))
    | (go_at_call 19; refine (c19 _ _ (Or.inl hF)).mono ?_; rintro e wd ⟨b1, k1, c1, x1, rfl, hk1, hN1, hv1, hs1, hA1⟩))
  have hC1 := Cw.of hN1 hA1.loose
  have HA1 : Hid (Ans g N wc wd b1) := hA1
  have HA : Hid (Below w.heap.size w wc) := hA
  have hki : (k1 : Int) ≤ 632 := by omega
  clear hN1 hv1 hs1 hA1 hA hb hF hTa
  go_loopw [11, 41] (fun u iv wr => ∃ i : Nat, i ≤ k1 ∧ iv = .int .i64 i ∧ Cw b1 k1 wr ∧ Upd b1 wd wr) (fun _ iv _ => k1 - (intOf iv).toNat)
  case atStart => exact ⟨0, Nat.zero_le _, rfl, hC1, Upd.refl _ _⟩
  case round =>
    clear hC1
    obtain ⟨i, hi, rfl, hC, hU⟩ := hrel
    by_cases h : i < k1
    · have hii : (i : Int) < k1 := by omega
      obtain ⟨v, hv⟩ := hC.cell i h
      have hz := hC.loose i
      go_wp2
      go_roundw
      case rel => exact ⟨i + 1, by omega, by go_num, hC.set i _, hU.set i _⟩
      case measure => simp [intOf]; omega
    · obtain rfl : i = k1 := by omega
      obtain ⟨hR, hK, _⟩ := HA1.out.upd hU
      have hA := HA.out.trans (below_of_keep hK hgw HA.out.size)
      have cg := c22 g wr (Or.inr hR)
      clear hC hU HA1
      go_wp2_with (go_at_call 22; refine cg.mono ?_; rintro e we ⟨b5, k5, c5, z5, rfl, hk5, h05, hN5, hv5, hs5, hA5⟩; clear cg)
      have hC5 := Cw.of hN5 hA5.loose
      have HA5 : Hid (Ans g N wr we b5) := hA5
      have HR : Hid (Rdy g N wr) := hR
      have HAr : Hid (Below w.heap.size w wr) := hA
      have hki5 : (k5 : Int) ≤ 2001 := by omega
      clear hN5 hv5 hs5 hA5 hA hR hK
      go_loopw [13, 55] (fun u iv wq => ∃ j : Nat, j ≤ k5 ∧ iv = .int .i64 j ∧ Cw b5 k5 wq ∧ Upd b5 we wq) (fun _ iv _ => k5 - (intOf iv).toNat)
      case atStart => exact ⟨0, Nat.zero_le _, rfl, hC5, Upd.refl _ _⟩
      case round =>
        clear hC5
        obtain ⟨j, hj, rfl, hC, hU⟩ := hrel
        by_cases h2 : j < k5
        · have hjj : (j : Int) < k5 := by omega
          obtain ⟨v, hv⟩ := hC.cell j h2
          have hz := hC.loose j
          go_wp2
          go_roundw
          case rel => exact ⟨j + 1, by omega, by go_num, hC.set j _, hU.set j _⟩
          case measure => simp [intOf]; omega
        · obtain rfl : j = k5 := by omega
          obtain ⟨hR, _, hb5⟩ := HA5.out.upd hU
          have hA := HAr.out.trans ((hb5 HR.out).mono HAr.out.size)
          have HR2 : Hid (Rdy g N wr) := hR
          have cy := c19 g wr (Or.inr hR)
          clear hC hU HA5 hb5 hR
          go_wp2_with (first
            | (go_at_call_of 19 (Value.pointer (some ⟨g, 0, none⟩)); refine cy.mono ?_; rintro e wy ⟨b6, k6, c6, z6, rfl, hk6, hN6, hv6, hs6, hA6⟩
               obtain ⟨hRy, hby⟩ := hA6.rdy HR2.out
               replace hA := hA.trans (hby.mono hA.size)
               have hTy := hT.go hA
               clear cy hA6)
            | (go_at_call 18; refine (c18 _ hTy).mono ?_; rintro e wn ⟨g2, rfl, hF2, hgn, hbn⟩
               have cz := c19 g2 wn (Or.inl hF2)
               clear hF2)
            | (go_at_call_of 19 (Value.pointer (some ⟨g2, 0, none⟩)); refine cz.mono ?_; rintro e wz ⟨b7, k7, c7, z7, rfl, hk7, hN7, hv7, hs7, hA7⟩
               have hbz : Below wy.heap.size wy wz := hbn.trans (below_of_keep hA7.keep.2 hgn hbn.size)
               replace hA := hA.trans (hbz.mono hA.size)
               have hsm := rsame_any (some ⟨b6, 0, none⟩) (some ⟨b7, 0, none⟩) k6 c6 k7 c7 z6 z7 wz (by omega) (by omega) (hN6.next hbz) hN7 (hv6.trans hv7.symm)
               have cl := c22 g wz (Or.inr (hRy.next hbz))
               have HRz : Hid (Rdy g N wz) := hRy.next hbz
               clear cz hA7 hN6 hN7)
            | (go_at_call_of 22 (Value.pointer none); refine (greatest_nil _).mono ?_; rintro e w8 ⟨rfl, rfl⟩)
            | (go_at_call_of 25 (Value.pointer none); refine (made_nil _).mono ?_; rintro e w8 ⟨rfl, rfl⟩)
            | (go_at_call 21; refine hsm.mono ?_; rintro e w8 ⟨rfl, rfl⟩)
            | (go_at_call_of 22 (Value.pointer (some ⟨g, 0, none⟩)); refine cl.mono ?_; rintro e wl ⟨b9, k9, c9, z9, rfl, hk9, h09, hN9, hv9, hs9, hA9⟩
               replace hA := hA.trans ((hA9.rdy HRz.out).2.mono hA.size)
               have hsz := size_num (some ⟨b9, 0, none⟩) k9 c9 z9 wl (by omega) hN9
               rw [hs9] at hsz
               have h9i : (0 : Int) < k9 := by omega
               clear cl hA9 hN9)
            | (go_at_call 27; refine hsz.mono ?_; rintro e w8 ⟨rfl, rfl⟩))
          go_ret
          exact ⟨rfl, hA⟩
end Go.Proofs.YtcjbdmgaooojlaaDoor
