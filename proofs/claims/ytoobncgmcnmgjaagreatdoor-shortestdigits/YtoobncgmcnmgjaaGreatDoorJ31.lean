/-
  Texts that the proof leans on, joined: Sk9, Sl9, Sm9, Wc.
-/
import Derived.Test.YtoobncgmcnmgjaaGreatDoorJ30
import Derived.Test.YtoobncgmcnmgjaaGreatDoorJ25
import Derived.Test.YtoobncgmcnmgjaaGreatDoorJ1
import Derived.Test.YtoobncgmcnmgjaaGreatDoorJ16
import Derived.Test.YtoobncgmcnmgjaaGreatDoorJ17
import Derived.Test.YtoobncgmcnmgjaaGreatDoorJ22
set_option linter.unusedVariables false
set_option linter.unusedSectionVars false
set_option linter.unusedSimpArgs false
set_option maxRecDepth 20000
namespace Go.Proofs.YtoobncgmcnmgjaaGreatDoor
open Go.RowKit

theorem own_mut {Bs g n : Nat} {tv vn vb va vw : Value} {c : Bool} {xs : List Value} {w w' : World} (ho : w.ownsRow Bs 5 1 tv n xs) (hr : Rch g vn vb va vw c w) (hm : Mut g w w') : w'.ownsRow Bs 5 1 tv n xs := by
  obtain ⟨h1, h2⟩ := ho
  refine ⟨h1, ?_⟩
  rcases h2 with h2 | ⟨g', cap, cur, e1, e2, e3, e4⟩
  · exact Or.inl h2
  · refine Or.inr ⟨g', cap, cur, e1, e2, ?_, e4⟩
    have hlt : g' < w.heap.size := by
      rcases Nat.lt_or_ge g' w.heap.size with h | h
      · exact h
      · rw [Array.getElem?_eq_none h] at e3; cases e3
    have hne : g' ≠ g := by
      intro e
      subst e
      have := e3.symm.trans hr.blk
      cases this
    exact (hm.block g' hlt hne).trans e3
theorem own_far {Bs g n : Nat} {tv vn vb va vw : Value} {c : Bool} {xs : List Value} {w : World} (ho : w.ownsRow Bs 5 1 tv n xs) (hr : Rch g vn vb va vw c w) : some g ≠ tv.ownBlock := by
  obtain ⟨h1, h2⟩ := ho
  rcases h2 with ⟨rfl, _⟩ | ⟨g', cap, cur, rfl, e2, e3, e4⟩
  · intro h; cases h
  · intro h
    have : g = g' := Option.some.inj h
    subst this
    have := e3.symm.trans hr.blk
    cases this
theorem Rch.grown {g : Nat} {vn vb va vw tv : Value} {c : Bool} {w w' : World} (hr : Rch g vn vb va vw c w) (hg : w.grownBy w' tv.ownBlock) (hf : some g ≠ tv.ownBlock) : Rch g vn vb va vw c w' :=
  ⟨(hg.block g hr.lt hf).trans hr.blk, hr.s0, hr.s1, hr.s2, hr.s3⟩
theorem NT.grown {K V Bs : Nat} {v tv : Value} {l : List UInt8} {w w' : World} (h : NT K V v w) (ho : w.ownsRow Bs 5 1 tv l.length (Lib.byteCells l)) (hl : tv = .slice none 0 0 ∨ 0 < l.length) (hg : w.grownBy w' tv.ownBlock) : NT K V v w' := by
  obtain ⟨b, k, cap, z, h1, h2, ⟨n1, n2, n3, n4, n5⟩, h4, h5⟩ := h
  refine ⟨b, k, cap, z, h1, h2, ⟨n1, n2, n3, n4, ?_⟩, h4, h5⟩
  rcases n5 with n5 | ⟨b', off, e, hb, hc⟩
  · exact Or.inl n5
  · cases e
    refine Or.inr ⟨b, 0, rfl, Nat.lt_of_lt_of_le hb hg.size, fun i hi => ?_⟩
    have hne : some b ≠ tv.ownBlock := by
      rcases hl with rfl | hl
      · intro h; cases h
      · obtain ⟨g', cap', rfl, _, _⟩ := ho.form hl
        intro h
        have : b = g' := Option.some.inj h
        subst this
        have h6 := hc 0 (by omega)
        rw [Nat.add_zero, ho.cellAt 0 (by omega)] at h6
        simp [Lib.byteCells, hl] at h6
    exact (World.cell?_of_block (w := w) (a := ⟨b, 0 + i, none⟩) (hg.block b hb hne)).trans (hc i hi)
theorem bc_int (l : List UInt8) {d : Nat} (hd : d ≤ 9) : Lib.byteCells l ++ [.int .u8 (48 + (d : Int))] = Lib.byteCells (l ++ [UInt8.ofNat (48 + d)]) := by
  have := bc_one l (UInt8.ofNat (48 + d))
  rw [← this]
  congr 3
  simp
  omega
attribute [local irreducible] W4 Nz Nt NT
set_option maxHeartbeats 4000000 in
theorem digitsOf_w (n c : Int) (s g : Bool) (x : Int) (k : Nat) (E : Int) (cl : Bool) (R dn up Z K : Nat) (w : World) (hT : Tab w) (hEb : -6000 ≤ E ∧ E ≤ 6000) (hZ : 0 < Z) (hR : R < 10 * Z) (hZR : Z ≤ R) (hd : dn ≤ 10 * Z) (hu : up ≤ 10 * Z) (hbZ : bl Z ≤ 50000) (hK100 : K ≤ 1000)
    (hst : stK cl R dn up Z K = true) (hmn : ∀ j, j < K → stK cl R dn up Z j = false)
    (c63 : ∀ W, Tab W → Calls Tryz.prog 63 #[.int .i64 n, DV c s g x k] W fun r w' => ∃ gq v0 v1 v2 v3, r = .returned (.tuple #[.pointer (some ⟨gq, 0, none⟩), .int .i64 E]) ∧ W.heap.size ≤ gq ∧ Rch gq v0 v1 v2 v3 cl w' ∧ NT 2001 R v0 w' ∧ NT 2001 dn v1 w' ∧ NT 2001 up v2 w' ∧ NT 2001 Z v3 w' ∧ Below W.heap.size W w') :
    Calls Tryz.prog 24 #[.int .i64 n, DV c s g x k] w fun r w' => r = .returned (.tuple #[.string (B (shT cl R dn up Z K)), .int .i64 (E + (shC cl R dn up Z K : Nat))]) ∧ Below w.heap.size w w' := by
  have hsm := cell_set_map
  have HST : Hid (stK cl R dn up Z K = true) := hst
  have HMN : Hid (∀ j, j < K → stK cl R dn up Z j = false) := hmn
  clear hst hmn
  have hten : bl (10 * Z) ≤ 50010 := by have := bl_mul 10 Z; have : bl 10 = 4 := by decide
                                        omega
  obtain ⟨i0, hi, hz0, hz1, hz2⟩ := info_parts Tryz.info5
  unfold DV at *
  go_enter Tryz.func24, Tryz.ntmps24
  go_wp2_with (go_at_call 63; refine (c63 _ (hT.go bgo)).mono ?_; rintro r w1 ⟨gq, v0, v1, v2, v3, rfl, hgq, hr, z0, z1, z2, z3, hb1⟩; obtain ⟨hc1, hf1⟩ := bcell hb1; have hz1_0 : w.heap.size < w1.heap.size := lt_below hb1 ltg; have hl1_0 := Nat.le_of_lt hz1_0; have hA1 := bnext (w0 := w) bgo hb1; have hs1 := hA1.size; clear hb1)
  have hgw : w.heap.size ≤ gq := by simp at hgq; omega
  clear hc1 hf1 hsm c63 hgq hs1
  rename World => wB
  go_loopw [5, 7] (fun t5 t7 wr => t5 = .int .i64 E ∧ ∃ (j : Nat) (tv u0 u1 u2 : Value), tv = t7 ∧ slLen tv = j ∧ j ≤ K ∧ (tv = .slice none 0 0 ∨ 0 < j) ∧ wr.ownsRow w.heap.size 5 1 tv (dsN R Z j).length (Lib.byteCells (dsN R Z j)) ∧ Rch gq u0 u1 u2 v3 cl wr ∧ NT 2001 (rsN R Z j) u0 wr ∧ NT 2001 (10 ^ j * dn) u1 wr ∧ NT 2001 (10 ^ j * up) u2 wr ∧ NT 2001 Z v3 wr ∧ Below w.heap.size w wr) (fun _ t7 _ => K + 1 - slLen t7)
  case atStart => exact ⟨rfl, 0, _, v0, v1, v2, rfl, rfl, Nat.zero_le _, Or.inl rfl, World.ownsRow_nil _ _ _ _, hr, z0, by rw [Nat.pow_zero, Nat.one_mul]; exact z1, by rw [Nat.pow_zero, Nat.one_mul]; exact z2, z3, hA1⟩
  case round =>
    obtain ⟨rfl, j, tv, u0, u1, u2, e7, hlen, hjK, hnil, hown, hRw, y0, y1, y2, y3, hB⟩ := hrel
    subst e7
    obtain ⟨hb1, hb2⟩ := st_big hZ HMN.out hjK hd hu
    have hrl := rsN_lt hZ hR j
    have c64 := next_v hRw y0 y1 y2 y3 hZ hrl (by have := bl_mono (Nat.le_of_lt hrl); omega) (by have := bl_mono hb1; omega) (by have := bl_mono hb2; omega) (by omega)
    have eL : nxLa cl (rsN R Z j) (10 ^ j * dn) (10 ^ j * up) Z = laK cl R dn up Z j := rfl
    have eS : nxSt cl (rsN R Z j) (10 ^ j * dn) (10 ^ j * up) Z = stK cl R dn up Z j := rfl
    rw [eL, eS] at c64
    have HDL : Hid ((dsN R Z j).length = j) := dsN_len R Z j
    have hnil' : tv = .slice none 0 0 ∨ 0 < (dsN R Z j).length := by rw [HDL.out]; exact hnil
    have hdlb : (dsN R Z j).length ≤ 1000 := by rw [HDL.out]; omega
    have hlt := hRw.lt
    clear hb1 hb2 hrl eL eS
    by_cases hj : j < K
    · have hs0 := HMN.out j hj
      have hov : ovK cl R up Z j = false := by unfold stK at hs0; simp at hs0; exact hs0.2
      have hun : unK cl R dn Z j = false := by unfold stK at hs0; simp at hs0; exact hs0.1
      have eLa : laK cl R dn up Z j = dgK R Z j := by unfold laK upK; rw [hun, hov]; rfl
      have h9 := dgK_le hZ hR j
      have HDS : Hid (dsN R Z (j + 1) = dsN R Z j ++ [UInt8.ofNat (48 + dgK R Z j)]) := rfl
      have HBC : Hid (Lib.byteCells (dsN R Z j) ++ [.int .u8 (48 + ((dgK R Z j : Nat) : Int))] = Lib.byteCells (dsN R Z j ++ [UInt8.ofNat (48 + dgK R Z j)])) := bc_int _ h9
      have HRS : Hid (rsN R Z (j + 1) = rsN R Z j % Z * 10) := Nat.mul_comm _ _
      rw [hs0, eLa] at c64
      clear hs0 hov hun eLa
      generalize dgK R Z j = la at *
      have hla : (((la : Nat) : Int) == 10) = false := by rw [beq_eq_false_iff_ne]; omega
      go_wp2_with (first
        | (go_at_call 64; refine c64.mono ?_; rintro r w2 ⟨x0, x1, x2, rfl, hr2, q0, q1, q2, hm2⟩; have hown2 := (own_mut hown hRw hm2).alloc (.cells #[.int .u8 (48 + ((la : Nat) : Int))] 5); have hr2a := hr2.next (below1 w2 (.cells #[.int .u8 (48 + ((la : Nat) : Int))] 5)); have hB2 := bnx (hm2.out hB hgw (Nat.le_refl _)) (below1 w2 (.cells #[.int .u8 (48 + ((la : Nat) : Int))] 5)); have hbs2 : w.heap.size ≤ (w2.alloc (.cells #[.int .u8 (48 + ((la : Nat) : Int))] 5)).heap.size := hB2.size)
        | (at_builtin; refine wpList_append_lies _ rfl (.tmp 25) (.tmp 29) 80 rfl w.heap.size 5 i0 (.int .u8 0) 1 1 Tryz.underlying80 hi hz0 hz1 hz2 rfl (by decide) tv (dsN R Z j).length (Lib.byteCells (dsN R Z j)) rfl hown2 ⟨w2.heap.size, 0, none⟩ 1 1 [.int .u8 (48 + ((la : Nat) : Int))] rfl rfl (news1 _ _ _ (by simp)) (one1 _) (by decide) (by unfold maxLen; omega) (by omega) hbs2 _ rfl ?_; intro g1 cap1 w3 hown3 hgrow hat hlt3))
      go_roundw
      case rel =>
        refine ⟨rfl, j + 1, _, x0, x1, x2, rfl, by show (dsN R Z j).length + 1 = j + 1; rw [HDL.out], by omega, Or.inr (by omega), ?_, hr2a.grown hgrow (own_far hown2 hr2a), ?_, ?_, ?_, ?_, ?_⟩
        · rw [HDS.out, List.length_append, ← HBC.out]; exact hown3
        · rw [HRS.out]; exact (q0.next (below1 _ _)).grown hown2 hnil' hgrow
        · rw [Nat.pow_succ, Nat.mul_right_comm]; exact (q1.next (below1 _ _)).grown hown2 hnil' hgrow
        · rw [Nat.pow_succ, Nat.mul_right_comm]; exact (q2.next (below1 _ _)).grown hown2 hnil' hgrow
        · exact ((y3.mut hRw hm2).next (below1 _ _)).grown hown2 hnil' hgrow
        · exact hB2.grown hgrow hbs2 fun k hk => (hown2.lt k hk).1
      case measure => show K + 1 - ((dsN R Z j).length + 1) < K + 1 - slLen tv; rw [HDL.out]; omega
    · obtain rfl : j = K := by omega
      rw [HST.out] at c64
      have h10 := laK_le (c := cl) (d := dn) (u := up) hZ hR j
      by_cases h9 : laK cl R dn up Z j = 10
      · have HT : Hid (shT cl R dn up Z j = [49]) := if_pos h9
        have HC : Hid (shC cl R dn up Z j = 1) := if_pos h9
        rw [h9] at c64
        clear h9 h10
        go_wp2_with (go_at_call 64; refine c64.mono ?_; rintro r w2 ⟨x0, x1, x2, rfl, hr2, q0, q1, q2, hm2⟩)
        exact bodyPost_ret (v := .tuple #[.string ⟨#[49]⟩, .int .i64 (E + 1)]) (by simp only [results, Tryz.results24]; go_simp) rfl ⟨by rw [HT.out, HC.out]; rfl, hm2.out hB hgw (Nat.le_refl _)⟩
      · have HT : Hid (shT cl R dn up Z j = dsN R Z j ++ [UInt8.ofNat (48 + laK cl R dn up Z j)]) := if_neg h9
        have HC : Hid (shC cl R dn up Z j = 0) := if_neg h9
        have h9' : laK cl R dn up Z j ≤ 9 := by omega
        have HBC : Hid (Lib.byteCells (dsN R Z j) ++ [.int .u8 (48 + ((laK cl R dn up Z j : Nat) : Int))] = Lib.byteCells (dsN R Z j ++ [UInt8.ofNat (48 + laK cl R dn up Z j)])) := bc_int _ h9'
        clear h9 h10
        generalize laK cl R dn up Z j = la at *
        have hla : (((la : Nat) : Int) == 10) = false := by rw [beq_eq_false_iff_ne]; omega
        go_wp2_with (first
          | (go_at_call 64; refine c64.mono ?_; rintro r w2 ⟨x0, x1, x2, rfl, hr2, q0, q1, q2, hm2⟩; have hown2 := (own_mut hown hRw hm2).alloc (.cells #[.int .u8 (48 + ((la : Nat) : Int))] 5); have hr2a := hr2.next (below1 w2 (.cells #[.int .u8 (48 + ((la : Nat) : Int))] 5)); have hB2 := bnx (hm2.out hB hgw (Nat.le_refl _)) (below1 w2 (.cells #[.int .u8 (48 + ((la : Nat) : Int))] 5)); have hbs2 : w.heap.size ≤ (w2.alloc (.cells #[.int .u8 (48 + ((la : Nat) : Int))] 5)).heap.size := hB2.size)
          | (at_builtin; refine wpList_append_lies _ rfl (.tmp 25) (.tmp 29) 80 rfl w.heap.size 5 i0 (.int .u8 0) 1 1 Tryz.underlying80 hi hz0 hz1 hz2 rfl (by decide) tv (dsN R Z j).length (Lib.byteCells (dsN R Z j)) rfl hown2 ⟨w2.heap.size, 0, none⟩ 1 1 [.int .u8 (48 + ((la : Nat) : Int))] rfl rfl (news1 _ _ _ (by simp)) (one1 _) (by decide) (by unfold maxLen; omega) (by omega) hbs2 _ rfl ?_; intro g1 cap1 w3 hown3 hgrow hat hlt3; have hown4 : w3.ownsRow w.heap.size 5 1 (.slice (some ⟨g1, 0, none⟩) ((dsN R Z j).length + 1) cap1) (dsN R Z j ++ [UInt8.ofNat (48 + la)]).length (Lib.byteCells (dsN R Z j ++ [UInt8.ofNat (48 + la)])) := (by rw [List.length_append, ← HBC.out]; exact hown3); have hcv := own_str hown4 (by simp)))
        exact bodyPost_ret (v := .tuple #[.string (B (dsN R Z j ++ [UInt8.ofNat (48 + la)])), .int .i64 E]) (by simp only [results, Tryz.results24]; go_simp) rfl ⟨by rw [HT.out, HC.out]; simp, hB2.grown hgrow hbs2 fun k hk => (hown2.lt k hk).1⟩
end Go.Proofs.YtoobncgmcnmgjaaGreatDoor

namespace Go.Proofs.YtoobncgmcnmgjaaGreatDoor
open Go.RowKit

/-- how many quarters below a number are read as it -/
def lwN (n x : Int) (k : Nat) : Nat := if nbB n x k then 1 else 2
def evK (k : Nat) : Bool := decide (k % 2 = 0)
/-- the first digit's place, and how many digits behind it -/
structure Shd (n x : Int) (k : Nat) (E : Int) (K : Nat) : Prop where
  t0 : tnP k x E
  t1 : ¬ tnP k x (E + 1)
  st : stK (evK k) (4 * k * oE x E) (lwN n x k * oE x E) (2 * oE x E) (zE x E) K = true
  mn : ∀ j, j < K → stK (evK k) (4 * k * oE x E) (lwN n x k * oE x E) (2 * oE x E) (zE x E) j = false
def sdT (n x : Int) (k : Nat) (E : Int) (K : Nat) : List UInt8 := shT (evK k) (4 * k * oE x E) (lwN n x k * oE x E) (2 * oE x E) (zE x E) K
def sdC (n x : Int) (k : Nat) (E : Int) (K : Nat) : Nat := shC (evK k) (4 * k * oE x E) (lwN n x k * oE x E) (2 * oE x E) (zE x E) K
theorem bin_x {n x : Int} (hb : binN n) (h1 : leastN n ≤ x) (h2 : x ≤ mostN n) : -16990 ≤ x ∧ x ≤ 16990 := by
  have h3 : -16990 ≤ leastN n ∧ mostN n ≤ 16990 := by
    rcases bin_cases hb with rfl | rfl | rfl | rfl | rfl | rfl <;> decide
  omega
theorem gs_in {k : Nat} {x : Int} (hk : k < 2 ^ 256) (hk0 : k ≠ 0) (hx : -16990 ≤ x ∧ x ≤ 16990) : tnP k x (gsP k x) ∧ -6000 ≤ gsP k x ∧ gsP k x < 6000 := by
  have hb : bl k ≤ 256 := bl_le.2 hk
  obtain ⟨b1, b2, b3⟩ := bl_bd hk0
  have e : ((bl k - 1 : Nat) : Int) = (bl k : Int) - 1 := by omega
  have := guess_ok (c := k) (L := bl k - 1) (x := x) b1 (by omega)
  rw [e] at this
  refine ⟨this, ?_⟩
  unfold gsP
  by_cases h0 : 0 ≤ (bl k : Int) - 1 + x
  · rw [Int.tdiv_eq_ediv_of_nonneg (by omega)]; omega
  · rw [show ((bl k : Int) - 1 + x) * 30103 = -(-((bl k : Int) - 1 + x) * 30103) by omega, Int.neg_tdiv, Int.tdiv_eq_ediv_of_nonneg (by omega)]; omega
theorem frac_up {q W : Nat} {x p : Int} (h : q * zE x p = W * oE x p) : ∀ j : Nat, q * zE x (p + j) = 10 ^ j * W * oE x (p + j)
  | 0 => by simpa using h
  | j + 1 => by
    have := frac_next (frac_up h j)
    rw [show p + ((j + 1 : Nat) : Int) = p + (j : Int) + 1 by omega, this, Nat.pow_succ]
    congr 1
    rw [← Nat.mul_assoc, Nat.mul_comm 10]
theorem Shd.ex {n x : Int} {k : Nat} (hk : k < 2 ^ 256) (hk0 : k ≠ 0) (hx : -16990 ≤ x ∧ x ≤ 16990) : ∃ E K, Shd n x k E K := by
  obtain ⟨g1, g2, g3⟩ := gs_in hk hk0 hx
  obtain ⟨E, e1, e2, e3, e4⟩ := tn_ex (6000 - gsP k x).toNat (gsP k x) g1 (by rw [show gsP k x + ((6000 - gsP k x).toNat : Int) = 6000 by omega]; exact tn_top hk (by omega))
  have hl : 0 < lwN n x k * oE x E := Nat.mul_pos (by unfold lwN; split <;> decide) (oE_pos _ _)
  obtain ⟨K, h1, h2⟩ := st_ex (c := evK k) (R := 4 * k * oE x E) (u := 2 * oE x E) (zE_pos x E) hl
  exact ⟨E, K, e3, e4, h1, h2⟩
theorem Shd.bd {n x : Int} {k : Nat} {E : Int} {K : Nat} (h : Shd n x k E K) (hk : k < 2 ^ 256) (hk0 : k ≠ 0) (hx : -16990 ≤ x ∧ x ≤ 16990) : -6000 ≤ E ∧ E < 6000 ∧ K ≤ 80 := by
  obtain ⟨g1, g2, g3⟩ := gs_in hk hk0 hx
  refine ⟨?_, ?_, ?_⟩
  · rcases Int.lt_or_le E (-6000) with h' | h'
    · exact absurd (tn_le g1 (by omega)) h.t1
    · exact h'
  · rcases Int.lt_or_le E 6000 with h' | h'
    · exact h'
    · exact absurd (tn_le h.t0 h') (tn_top hk (by omega))
  · refine st_le (M := 4 * k) (zE_pos x E) ?_ (Nat.mul_pos (by unfold lwN; split <;> decide) (oE_pos _ _)) h.mn 80 ?_
    · refine Nat.le_trans h.t0 (Nat.mul_le_mul_left _ (Nat.le_mul_of_pos_left _ (by unfold lwN; split <;> decide)))
    · have : 4 * 2 ^ 256 < 10 ^ 80 := by decide
      omega
/-- digits and the first one's place -/
theorem digitsOf_v {n x : Int} {k : Nat} {E : Int} {K : Nat} (c : Int) (s g : Bool) (w : World) (hT : Tab w) (hb : binN n) (hk : k < 2 ^ 256) (hk0 : k ≠ 0) (hx : -16990 ≤ x ∧ x ≤ 16990) (h : Shd n x k E K) :
    Calls Tryz.prog 24 #[.int .i64 n, DV c s g x k] w fun r w' => r = .returned (.tuple #[.string (B (sdT n x k E K)), .int .i64 (E + (sdC n x k E K : Nat))]) ∧ Below w.heap.size w w' := by
  obtain ⟨hE1, hE2, hK⟩ := h.bd hk hk0 hx
  obtain ⟨g1, g2, g3⟩ := gs_in hk hk0 hx
  have hpE : gsP k x ≤ E := by
    rcases Int.lt_or_le E (gsP k x) with h' | h'
    · exact absurd (tn_le g1 (by omega)) h.t1
    · exact h'
  have hq := (qr_pos x (gsP k x)).1
  have hqb := qr_bl (x := x) (p := gsP k x) (by omega) (by omega)
  have h0 := qr_eq x (gsP k x)
  have hup := frac_up h0 (E - gsP k x).toNat
  rw [show gsP k x + ((E - gsP k x).toNat : Int) = E by omega] at hup
  have hbk : bl k ≤ 256 := bl_le.2 hk
  have c95 := fun W => guess_v c s g x k W hk (by omega)
  have c96 : ∀ W, Tab W → Calls Tryz.prog 97 #[.int .i64 n, DV c s g x k, .int .i64 (gsP k x)] W fun r w' => ∃ gq v0 v1 v2 v3, r = .returned (.pointer (some ⟨gq, 0, none⟩)) ∧ W.heap.size ≤ gq ∧ Rch gq v0 v1 v2 v3 (evK k) w' ∧ NT 2001 (4 * k * qrQ x (gsP k x)) v0 w' ∧ NT 2001 (lwN n x k * qrQ x (gsP k x)) v1 w' ∧ NT 2001 (2 * qrQ x (gsP k x)) v2 w' ∧ NT 2001 (qrW x (gsP k x)) v3 w' ∧ Below W.heap.size W w' := fun W hW => by
    have := bounds_v n c s g x k (gsP k x) W hW hb hk hx (by omega)
    rw [show k * qrQ x (gsP k x) * 4 = 4 * k * qrQ x (gsP k x) by rw [Nat.mul_comm _ 4, Nat.mul_assoc], show (if nbB n x k = true then qrQ x (gsP k x) else qrQ x (gsP k x) * 2) = lwN n x k * qrQ x (gsP k x) by unfold lwN; split <;> omega, Nat.mul_comm (qrQ x (gsP k x)) 2] at this
    exact this
  generalize gsP k x = p at *
  generalize qrQ x p = q at *
  generalize qrW x p = W0 at *
  generalize hZd : 10 ^ (E - p).toNat * W0 = Z at *
  have hN : bl (4 * k * q) ≤ 45000 := by
    have a1 := bl_mul (4 * k) q
    have a2 := bl_mul 4 k
    have a3 : bl 4 = 3 := by decide
    omega
  have c63 : ∀ W, Tab W → Calls Tryz.prog 63 #[.int .i64 n, DV c s g x k] W fun r w' => ∃ gq v0 v1 v2 v3, r = .returned (.tuple #[.pointer (some ⟨gq, 0, none⟩), .int .i64 E]) ∧ W.heap.size ≤ gq ∧ Rch gq v0 v1 v2 v3 (evK k) w' ∧ NT 2001 (4 * k * q) v0 w' ∧ NT 2001 (lwN n x k * q) v1 w' ∧ NT 2001 (2 * q) v2 w' ∧ NT 2001 Z v3 w' ∧ Below W.heap.size W w' := fun W hW => by
    refine (scaled_w n c s g x k p E (evK k) (4 * k * q) (lwN n x k * q) (2 * q) q W0 W hW hq rfl (by omega) ⟨hpE, by omega, by omega⟩ h.t1 g1 h0 c95 c96).mono ?_
    rintro r w' ⟨gq, v0, v1, v2, v3, e, Z', e1, e2, e3, e4, e5, e6, e7, e8, e9, e10, e11, e12⟩
    obtain rfl := tn_uniq e10 e11 h.t0 h.t1
    have : Z' = Z := Nat.eq_of_mul_eq_mul_right (oE_pos x e) (e9.symm.trans hup)
    subst this
    exact ⟨gq, v0, v1, v2, v3, e1, e2, e3, e4, e5, e6, e7, e8⟩
  have hZR : Z ≤ 4 * k * q := by
    have := (frac_tn (c := k) hq hup 1).2 (by rw [Nat.one_mul]; exact h.t0)
    omega
  have hR : 4 * k * q < 10 * Z := by
    rcases Nat.lt_or_ge (4 * k * q) (10 * Z) with h' | h'
    · exact h'
    · exact absurd (tn_next.2 ((frac_tn (c := k) hq hup 10).1 h')) h.t1
  have hZ : 0 < Z := by
    rcases Nat.eq_zero_or_pos Z with h' | h'
    · omega
    · exact h'
  have hqk : 2 * q ≤ 4 * k * q := Nat.mul_le_mul_right q (by omega)
  have hlw : lwN n x k * q ≤ 2 * q := Nat.mul_le_mul_right q (by unfold lwN; split <;> omega)
  have cr := fun j => sh_cross (evK k) hZ (zE_pos x E) (R := 4 * k * q) (R' := 4 * k * oE x E) (d := lwN n x k * q) (d' := lwN n x k * oE x E) (u := 2 * q) (u' := 2 * oE x E) (by rw [Nat.mul_assoc, hup, Nat.mul_assoc (4 * k), Nat.mul_comm Z]) (by rw [Nat.mul_assoc, hup, Nat.mul_assoc (lwN n x k), Nat.mul_comm Z]) (by rw [Nat.mul_assoc, hup, Nat.mul_assoc 2, Nat.mul_comm Z]) j
  have := digitsOf_w n c s g x k E (evK k) (4 * k * q) (lwN n x k * q) (2 * q) Z K w hT (by omega) hZ hR hZR (by omega) (by omega) (by have := bl_mono hZR; omega) (by omega) (by rw [(cr K).1]; exact h.st) (fun j hj => by rw [(cr j).1]; exact h.mn j hj) c63
  rw [(cr K).2.1, (cr K).2.2] at this
  exact this
end Go.Proofs.YtoobncgmcnmgjaaGreatDoor

namespace Go.Proofs.YtoobncgmcnmgjaaGreatDoor
open Go.RowKit

theorem W4_none {k : Nat} (hk : k < 2 ^ 256) : decide (W4 k 0 = 0 ∧ W4 k 1 = 0 ∧ W4 k 2 = 0 ∧ W4 k 3 = 0) = decide (k = 0) := by
  by_cases h : k = 0
  · subst h
    rw [decide_eq_true (by simp [W4_zero]), decide_eq_true rfl]
  · rw [decide_eq_false h, decide_eq_false]
    rintro ⟨h0, h1, h2, h3⟩
    refine h (A4_inj hk (by decide) fun i hi => ?_)
    have : i = 0 ∨ i = 1 ∨ i = 2 ∨ i = 3 := by omega
    rcases this with rfl | rfl | rfl | rfl
    · rw [h0, W4_zero]
    · rw [h1, W4_zero]
    · rw [h2, W4_zero]
    · rw [h3, W4_zero]
attribute [local irreducible] W4
set_option maxHeartbeats 1000000 in
theorem none_v (c : Int) (s g : Bool) (x : Int) (k : Nat) (w : World) (hk : k < 2 ^ 256) :
    Calls Tryz.prog 23 #[DV c s g x k] w fun r w' => r = .returned (.bool (decide (k = 0))) ∧ Below w.heap.size w w' := by
  have h24 := eq24 (W4 k 0) (W4 k 1) (W4 k 2) (W4 k 3) 0 0 0 0
  rw [W4_none hk] at h24
  have hsm := cell_set_map
  unfold DV
  go_enter Tryz.func23, Tryz.ntmps23
  go_wp2
  go_ret
  exact ⟨rfl, bgo⟩
section
variable (n : Int) (Bp : Nat) (c : Int) (s g : Bool) (x : Int) (k : Nat) (w : World) (hT : Tab w) (hk : k < 2 ^ 256)
include hT
set_option maxHeartbeats 2000000 in
theorem dig10_e (E : Int) (hE : (E != 0) = true) (c22 : ∀ W, Tab W → Calls Tryz.prog 22 #[.int .i64 n, A4 Bp] W fun r w' => r = .returned (.tuple #[DV c s g x k, .int .i64 E]) ∧ Below W.heap.size W w') :
    Calls Tryz.prog 10 #[.int .i64 n, A4 Bp] w fun r w' => r = .returned (.tuple #[.string (B []), .int .i64 0, .int .i64 E]) ∧ Below w.heap.size w w' := by
  have hsm := cell_set_map
  unfold DV A4 at *
  go_enter Tryz.func10, Tryz.ntmps10
  go_wp2_with (go_at_call 22; refine (c22 _ (hT.go bgo)).mono ?_; rintro r w1 ⟨rfl, hb1⟩; obtain ⟨hc1, hf1⟩ := bcell hb1; have hz1_0 : w.heap.size < w1.heap.size := lt_below hb1 ltg; have hl1_0 := Nat.le_of_lt hz1_0; have hA1 := bnext (w0 := w) bgo hb1; have hs1 := hA1.size; clear hb1)
  exact bodyPost_ret (v := .tuple #[.string ⟨#[]⟩, .int .i64 0, .int .i64 E]) (by simp only [results, Tryz.results10]; go_simp) rfl ⟨rfl, bgo⟩
variable (c22 : ∀ W, Tab W → Calls Tryz.prog 22 #[.int .i64 n, A4 Bp] W fun r w' => r = .returned (.tuple #[DV c s g x k, .int .i64 0]) ∧ Below W.heap.size W w')
include c22
set_option maxHeartbeats 2000000 in
theorem dig10_c (hc : (c != 1) = true) :
    Calls Tryz.prog 10 #[.int .i64 n, A4 Bp] w fun r w' => r = .returned (.tuple #[.string (B []), .int .i64 0, .int .i64 6]) ∧ Below w.heap.size w w' := by
  have hsm := cell_set_map
  unfold DV A4 at *
  go_enter Tryz.func10, Tryz.ntmps10
  go_wp2_with (go_at_call 22; refine (c22 _ (hT.go bgo)).mono ?_; rintro r w1 ⟨rfl, hb1⟩; obtain ⟨hc1, hf1⟩ := bcell hb1; have hz1_0 : w.heap.size < w1.heap.size := lt_below hb1 ltg; have hl1_0 := Nat.le_of_lt hz1_0; have hA1 := bnext (w0 := w) bgo hb1; have hs1 := hA1.size; clear hb1)
  exact bodyPost_ret (v := .tuple #[.string ⟨#[]⟩, .int .i64 0, .int .i64 6]) (by simp only [results, Tryz.results10]; go_simp) rfl ⟨rfl, bgo⟩
variable (hc : c = 1)
include hc
set_option maxHeartbeats 2000000 in
theorem dig10_0 (c23 : ∀ W, Calls Tryz.prog 23 #[DV 1 s g x k] W fun r w' => r = .returned (.bool true) ∧ Below W.heap.size W w') :
    Calls Tryz.prog 10 #[.int .i64 n, A4 Bp] w fun r w' => r = .returned (.tuple #[.string (B []), .int .i64 0, .int .i64 6]) ∧ Below w.heap.size w w' := by
  subst hc
  have hsm := cell_set_map
  unfold DV A4 at *
  go_enter Tryz.func10, Tryz.ntmps10
  go_wp2_with (first
    | (go_at_call 22; refine (c22 _ (hT.go bgo)).mono ?_; rintro r w1 ⟨rfl, hb1⟩; obtain ⟨hc1, hf1⟩ := bcell hb1; have hz1_0 : w.heap.size < w1.heap.size := lt_below hb1 ltg; have hl1_0 := Nat.le_of_lt hz1_0; have hA1 := bnext (w0 := w) bgo hb1; have hs1 := hA1.size; clear hb1)
    | (go_at_call 23; refine (c23 _).mono ?_; rintro r w2 ⟨rfl, hb2⟩; obtain ⟨hc2, hf2⟩ := bcell hb2; have hz2_0 : w.heap.size < w2.heap.size := lt_below hb2 ltg; have hl2_0 := Nat.le_of_lt hz2_0; have hz2_1 : w1.heap.size < w2.heap.size := lt_below hb2 ltg; have hl2_1 := Nat.le_of_lt hz2_1; have hA2 := bnext (w0 := w) bgo hb2; have hs2 := hA2.size; clear hb2))
  exact bodyPost_ret (v := .tuple #[.string ⟨#[]⟩, .int .i64 0, .int .i64 6]) (by simp only [results, Tryz.results10]; go_simp) rfl ⟨rfl, bgo⟩
set_option maxHeartbeats 2000000 in
theorem dig10_k (c23 : ∀ W, Calls Tryz.prog 23 #[DV 1 s g x k] W fun r w' => r = .returned (.bool false) ∧ Below W.heap.size W w') (D : List UInt8) (e : Int) (he : -100000 ≤ e ∧ e ≤ 100000) (hD : D.length ≤ 1000)
    (c24 : ∀ W, Tab W → Calls Tryz.prog 24 #[.int .i64 n, DV 1 s g x k] W fun r w' => r = .returned (.tuple #[.string (B D), .int .i64 e]) ∧ Below W.heap.size W w') :
    Calls Tryz.prog 10 #[.int .i64 n, A4 Bp] w fun r w' => r = .returned (.tuple #[.string (B D), .int .i64 (e + 1 - D.length), .int .i64 0]) ∧ Below w.heap.size w w' := by
  subst hc
  have hsm := cell_set_map
  have hsz : (B D).size = D.length := B_size D
  unfold DV A4 at *
  go_enter Tryz.func10, Tryz.ntmps10
  go_wp2_with (first
    | (go_at_call 22; refine (c22 _ (hT.go bgo)).mono ?_; rintro r w1 ⟨rfl, hb1⟩; obtain ⟨hc1, hf1⟩ := bcell hb1; have hz1_0 : w.heap.size < w1.heap.size := lt_below hb1 ltg; have hl1_0 := Nat.le_of_lt hz1_0; have hA1 := bnext (w0 := w) bgo hb1; have hs1 := hA1.size; clear hb1)
    | (go_at_call 23; refine (c23 _).mono ?_; rintro r w2 ⟨rfl, hb2⟩; obtain ⟨hc2, hf2⟩ := bcell hb2; have hz2_0 : w.heap.size < w2.heap.size := lt_below hb2 ltg; have hl2_0 := Nat.le_of_lt hz2_0; have hz2_1 : w1.heap.size < w2.heap.size := lt_below hb2 ltg; have hl2_1 := Nat.le_of_lt hz2_1; have hA2 := bnext (w0 := w) bgo hb2; have hs2 := hA2.size; clear hb2)
    | (go_at_call 24; refine (c24 _ (hT.go bgo)).mono ?_; rintro r w3 ⟨rfl, hb3⟩; obtain ⟨hc3, hf3⟩ := bcell hb3; have hz3_0 : w.heap.size < w3.heap.size := lt_below hb3 ltg; have hl3_0 := Nat.le_of_lt hz3_0; have hz3_1 : w1.heap.size < w3.heap.size := lt_below hb3 ltg; have hl3_1 := Nat.le_of_lt hz3_1; have hA3 := bnext (w0 := w) bgo hb3; have hs3 := hA3.size; clear hb3))
  exact bodyPost_ret (v := .tuple #[.string (B D), .int .i64 (e + 1 - D.length), .int .i64 0]) (by simp only [results, Tryz.results10]; go_simp) rfl ⟨rfl, bgo⟩
end
end Go.Proofs.YtoobncgmcnmgjaaGreatDoor

namespace Go.Proofs.YtoobncgmcnmgjaaGreatDoor
open Go.RowKit

theorem val_odd {z : Nat → Int} {k V : Nat} (hk : 0 < k) (hv : val z k = (V : Int)) : (V : Int) % 2 = z 0 % 2 := by
  have key : ∀ j, val z (j + 1) % 2 = z 0 % 2 := by
    intro j
    induction j with
    | zero => simp [val]
    | succ j ih =>
      have : val z (j + 1 + 1) = val z (j + 1) + z (j + 1) * 18446744073709551616 ^ (j + 1) := rfl
      rw [this, Int.pow_succ, show z (j + 1) * (18446744073709551616 ^ j * 18446744073709551616) = 2 * (z (j + 1) * 18446744073709551616 ^ j * 9223372036854775808) by grind, Int.add_mul_emod_self_left]
      exact ih
  obtain ⟨j, rfl⟩ : ∃ j, k = j + 1 := ⟨k - 1, by omega⟩
  rw [← hv]; exact key j
attribute [local irreducible] NV NT
end Go.Proofs.YtoobncgmcnmgjaaGreatDoor
