/-
  Texts that the proof leans on, joined: Sk9, Sl9, Sb9, Sf8.
-/
import Derived.Test.YtoobncgmcnmgjaaGreatDoorL32
import Derived.Test.YtoobncgmcnmgjaaGreatDoorL26
import Derived.Test.YtoobncgmcnmgjaaGreatDoorL1
import Derived.Test.YtoobncgmcnmgjaaGreatDoorL21
set_option linter.unusedVariables false
set_option linter.unusedSectionVars false
set_option linter.unusedSimpArgs false
set_option maxRecDepth 20000
namespace Go.Proofs.YtoobncgmcnmgjaaGreatDoor
open Go.RowKit

theorem own_mut {Bs g n : Nat} {tv vn vb va vw : Value} {c : Bool} {xs : List Value} {w w' : World} (ho : w.ownsRow Bs 5 1 tv n xs) (hr : Rch g vn vb va vw c w) (hm : Mut g w w') : w'.ownsRow Bs 5 1 tv n xs := by
  obtain ⟨h1, h2⟩ := ho
  refine ⟨h1, ?_⟩
  rcases h2 with h2 | ⟨g', cap, cur, e1, e2, e3, e4⟩
  · exact Or.inl h2
  · refine Or.inr ⟨g', cap, cur, e1, e2, ?_, e4⟩
    have hlt : g' < w.heap.size := by
      rcases Nat.lt_or_ge g' w.heap.size with h | h
      · exact h
      · rw [Array.getElem?_eq_none h] at e3; cases e3
    have hne : g' ≠ g := by
      intro e
      subst e
      have := e3.symm.trans hr.blk
      cases this
    exact (hm.block g' hlt hne).trans e3
theorem own_far {Bs g n : Nat} {tv vn vb va vw : Value} {c : Bool} {xs : List Value} {w : World} (ho : w.ownsRow Bs 5 1 tv n xs) (hr : Rch g vn vb va vw c w) : some g ≠ tv.ownBlock := by
  obtain ⟨h1, h2⟩ := ho
  rcases h2 with ⟨rfl, _⟩ | ⟨g', cap, cur, rfl, e2, e3, e4⟩
  · intro h; cases h
  · intro h
    have : g = g' := Option.some.inj h
    subst this
    have := e3.symm.trans hr.blk
    cases this
theorem Rch.grown {g : Nat} {vn vb va vw tv : Value} {c : Bool} {w w' : World} (hr : Rch g vn vb va vw c w) (hg : w.grownBy w' tv.ownBlock) (hf : some g ≠ tv.ownBlock) : Rch g vn vb va vw c w' :=
  ⟨(hg.block g hr.lt hf).trans hr.blk, hr.s0, hr.s1, hr.s2, hr.s3⟩
theorem NT.grown {K V Bs : Nat} {v tv : Value} {l : List UInt8} {w w' : World} (h : NT K V v w) (ho : w.ownsRow Bs 5 1 tv l.length (Lib.byteCells l)) (hl : tv = .slice none 0 0 ∨ 0 < l.length) (hg : w.grownBy w' tv.ownBlock) : NT K V v w' := by
  obtain ⟨b, k, cap, z, h1, h2, ⟨n1, n2, n3, n4, n5⟩, h4, h5⟩ := h
  refine ⟨b, k, cap, z, h1, h2, ⟨n1, n2, n3, n4, ?_⟩, h4, h5⟩
  rcases n5 with n5 | ⟨b', off, e, hb, hc⟩
  · exact Or.inl n5
  · cases e
    refine Or.inr ⟨b, 0, rfl, Nat.lt_of_lt_of_le hb hg.size, fun i hi => ?_⟩
    have hne : some b ≠ tv.ownBlock := by
      rcases hl with rfl | hl
      · intro h; cases h
      · obtain ⟨g', cap', rfl, _, _⟩ := ho.form hl
        intro h
        have : b = g' := Option.some.inj h
        subst this
        have h6 := hc 0 (by omega)
        rw [Nat.add_zero, ho.cellAt 0 (by omega)] at h6
        simp [Lib.byteCells, hl] at h6
    exact (World.cell?_of_block (w := w) (a := ⟨b, 0 + i, none⟩) (hg.block b hb hne)).trans (hc i hi)
theorem bc_int (l : List UInt8) {d : Nat} (hd : d ≤ 9) : Lib.byteCells l ++ [.int .u8 (48 + (d : Int))] = Lib.byteCells (l ++ [UInt8.ofNat (48 + d)]) := by
  have := bc_one l (UInt8.ofNat (48 + d))
  rw [← this]
  congr 3
  simp
  omega
attribute [local irreducible] W4 Nz Nt NT
set_option maxHeartbeats 4000000 in
theorem digitsOf_w (n c : Int) (s g : Bool) (x : Int) (k : Nat) (E : Int) (cl : Bool) (R dn up Z K : Nat) (w : World) (hT : Tab w) (hEb : -6000 ≤ E ∧ E ≤ 6000) (hZ : 0 < Z) (hR : R < 10 * Z) (hZR : Z ≤ R) (hd : dn ≤ 10 * Z) (hu : up ≤ 10 * Z) (hbZ : bl Z ≤ 50000) (hK100 : K ≤ 1000)
    (hst : stK cl R dn up Z K = true) (hmn : ∀ j, j < K → stK cl R dn up Z j = false)
    (c63 : ∀ W, Tab W → Calls Tryz.prog 63 #[.int .i64 n, DV c s g x k] W fun r w' => ∃ gq v0 v1 v2 v3, r = .returned (.tuple #[.pointer (some ⟨gq, 0, none⟩), .int .i64 E]) ∧ W.heap.size ≤ gq ∧ Rch gq v0 v1 v2 v3 cl w' ∧ NT 2001 R v0 w' ∧ NT 2001 dn v1 w' ∧ NT 2001 up v2 w' ∧ NT 2001 Z v3 w' ∧ Below W.heap.size W w') :
    Calls Tryz.prog 24 #[.int .i64 n, DV c s g x k] w fun r w' => r = .returned (.tuple #[.string (B (shT cl R dn up Z K)), .int .i64 (E + (shC cl R dn up Z K : Nat))]) ∧ Below w.heap.size w w' := by
  have hsm := cell_set_map
  have HST : Hid (stK cl R dn up Z K = true) := hst
  have HMN : Hid (∀ j, j < K → stK cl R dn up Z j = false) := hmn
  clear hst hmn
  have hten : bl (10 * Z) ≤ 50010 := by have := bl_mul 10 Z; have : bl 10 = 4 := by decide
                                        omega
  obtain ⟨i0, hi, hz0, hz1, hz2⟩ := info_parts Tryz.info5
  unfold DV at *
  go_enter Tryz.func24, Tryz.ntmps24
  go_wp2_with (go_at_call 63; refine (c63 _ (hT.go bgo)).mono ?_; rintro r w1 ⟨gq, v0, v1, v2, v3, rfl, hgq, hr, z0, z1, z2, z3, hb1⟩; obtain ⟨hc1, hf1⟩ := bcell hb1; have hz1_0 : w.heap.size < w1.heap.size := lt_below hb1 ltg; have hl1_0 := Nat.le_of_lt hz1_0; have hA1 := bnext (w0 := w) bgo hb1; have hs1 := hA1.size; clear hb1)
  have hgw : w.heap.size ≤ gq := by simp at hgq; omega
  clear hc1 hf1 hsm c63 hgq hs1
  rename World => wB
  go_loopw [5, 7] (fun t5 t7 wr => t5 = .int .i64 E ∧ ∃ (j : Nat) (tv u0 u1 u2 : Value), tv = t7 ∧ slLen tv = j ∧ j ≤ K ∧ (tv = .slice none 0 0 ∨ 0 < j) ∧ wr.ownsRow w.heap.size 5 1 tv (dsN R Z j).length (Lib.byteCells (dsN R Z j)) ∧ Rch gq u0 u1 u2 v3 cl wr ∧ NT 2001 (rsN R Z j) u0 wr ∧ NT 2001 (10 ^ j * dn) u1 wr ∧ NT 2001 (10 ^ j * up) u2 wr ∧ NT 2001 Z v3 wr ∧ Below w.heap.size w wr) (fun _ t7 _ => K + 1 - slLen t7)
  case atStart => exact ⟨rfl, 0, _, v0, v1, v2, rfl, rfl, Nat.zero_le _, Or.inl rfl, World.ownsRow_nil _ _ _ _, hr, z0, by rw [Nat.pow_zero, Nat.one_mul]; exact z1, by rw [Nat.pow_zero, Nat.one_mul]; exact z2, z3, hA1⟩
  case round =>
    obtain ⟨rfl, j, tv, u0, u1, u2, e7, hlen, hjK, hnil, hown, hRw, y0, y1, y2, y3, hB⟩ := hrel
    subst e7
    obtain ⟨hb1, hb2⟩ := st_big hZ HMN.out hjK hd hu
    have hrl := rsN_lt hZ hR j
    have c64 := next_v hRw y0 y1 y2 y3 hZ hrl (by have := bl_mono (Nat.le_of_lt hrl); omega) (by have := bl_mono hb1; omega) (by have := bl_mono hb2; omega) (by omega)
    have eL : nxLa cl (rsN R Z j) (10 ^ j * dn) (10 ^ j * up) Z = laK cl R dn up Z j := rfl
    have eS : nxSt cl (rsN R Z j) (10 ^ j * dn) (10 ^ j * up) Z = stK cl R dn up Z j := rfl
    rw [eL, eS] at c64
    have HDL : Hid ((dsN R Z j).length = j) := dsN_len R Z j
    have hnil' : tv = .slice none 0 0 ∨ 0 < (dsN R Z j).length := by rw [HDL.out]; exact hnil
    have hdlb : (dsN R Z j).length ≤ 1000 := by rw [HDL.out]; omega
    have hlt := hRw.lt
    clear hb1 hb2 hrl eL eS
    by_cases hj : j < K
    · have hs0 := HMN.out j hj
      have hov : ovK cl R up Z j = false := by unfold stK at hs0; simp at hs0; exact hs0.2
      have hun : unK cl R dn Z j = false := by unfold stK at hs0; simp at hs0; exact hs0.1
      have eLa : laK cl R dn up Z j = dgK R Z j := by unfold laK upK; rw [hun, hov]; rfl
      have h9 := dgK_le hZ hR j
      have HDS : Hid (dsN R Z (j + 1) = dsN R Z j ++ [UInt8.ofNat (48 + dgK R Z j)]) := rfl
      have HBC : Hid (Lib.byteCells (dsN R Z j) ++ [.int .u8 (48 + ((dgK R Z j : Nat) : Int))] = Lib.byteCells (dsN R Z j ++ [UInt8.ofNat (48 + dgK R Z j)])) := bc_int _ h9
      have HRS : Hid (rsN R Z (j + 1) = rsN R Z j % Z * 10) := Nat.mul_comm _ _
      rw [hs0, eLa] at c64
      clear hs0 hov hun eLa
      generalize dgK R Z j = la at *
      have hla : (((la : Nat) : Int) == 10) = false := by rw [beq_eq_false_iff_ne]; omega
      go_wp2_with (first
        | (go_at_call 64; refine c64.mono ?_; rintro r w2 ⟨x0, x1, x2, rfl, hr2, q0, q1, q2, hm2⟩; have hown2 := (own_mut hown hRw hm2).alloc (.cells #[.int .u8 (48 + ((la : Nat) : Int))] 5); have hr2a := hr2.next (below1 w2 (.cells #[.int .u8 (48 + ((la : Nat) : Int))] 5)); have hB2 := bnx (hm2.out hB hgw (Nat.le_refl _)) (below1 w2 (.cells #[.int .u8 (48 + ((la : Nat) : Int))] 5)); have hbs2 : w.heap.size ≤ (w2.alloc (.cells #[.int .u8 (48 + ((la : Nat) : Int))] 5)).heap.size := hB2.size)
        | (at_builtin; refine wpList_append_lies _ rfl (.tmp 25) (.tmp 29) 80 rfl w.heap.size 5 i0 (.int .u8 0) 1 1 Tryz.underlying80 hi hz0 hz1 hz2 rfl (by decide) tv (dsN R Z j).length (Lib.byteCells (dsN R Z j)) rfl hown2 ⟨w2.heap.size, 0, none⟩ 1 1 [.int .u8 (48 + ((la : Nat) : Int))] rfl rfl (news1 _ _ _ (by simp)) (one1 _) (by decide) (by unfold maxLen; omega) (by omega) hbs2 _ rfl ?_; intro g1 cap1 w3 hown3 hgrow hat hlt3))
      go_roundw
      case rel =>
        refine ⟨rfl, j + 1, _, x0, x1, x2, rfl, by show (dsN R Z j).length + 1 = j + 1; rw [HDL.out], by omega, Or.inr (by omega), ?_, hr2a.grown hgrow (own_far hown2 hr2a), ?_, ?_, ?_, ?_, ?_⟩
        · rw [HDS.out, List.length_append, ← HBC.out]; exact hown3
        · rw [HRS.out]; exact (q0.next (below1 _ _)).grown hown2 hnil' hgrow
        · rw [Nat.pow_succ, Nat.mul_right_comm]; exact (q1.next (below1 _ _)).grown hown2 hnil' hgrow
        · rw [Nat.pow_succ, Nat.mul_right_comm]; exact (q2.next (below1 _ _)).grown hown2 hnil' hgrow
        · exact ((y3.mut hRw hm2).next (below1 _ _)).grown hown2 hnil' hgrow
        · exact hB2.grown hgrow hbs2 fun k hk => (hown2.lt k hk).1
      case measure => show K + 1 - ((dsN R Z j).length + 1) < K + 1 - slLen tv; rw [HDL.out]; omega
    · obtain rfl : j = K := by omega
      rw [HST.out] at c64
      have h10 := laK_le (c := cl) (d := dn) (u := up) hZ hR j
      by_cases h9 : laK cl R dn up Z j = 10
      · have HT : Hid (shT cl R dn up Z j = [49]) := if_pos h9
        have HC : Hid (shC cl R dn up Z j = 1) := if_pos h9
        rw [h9] at c64
        clear h9 h10
        go_wp2_with (go_at_call 64; refine c64.mono ?_; rintro r w2 ⟨x0, x1, x2, rfl, hr2, q0, q1, q2, hm2⟩)
        exact bodyPost_ret (v := .tuple #[.string ⟨#[49]⟩, .int .i64 (E + 1)]) (by simp only [results, Tryz.results24]; go_simp) rfl ⟨by rw [HT.out, HC.out]; rfl, hm2.out hB hgw (Nat.le_refl _)⟩
      · have HT : Hid (shT cl R dn up Z j = dsN R Z j ++ [UInt8.ofNat (48 + laK cl R dn up Z j)]) := if_neg h9
        have HC : Hid (shC cl R dn up Z j = 0) := if_neg h9
        have h9' : laK cl R dn up Z j ≤ 9 := by omega
        have HBC : Hid (Lib.byteCells (dsN R Z j) ++ [.int .u8 (48 + ((laK cl R dn up Z j : Nat) : Int))] = Lib.byteCells (dsN R Z j ++ [UInt8.ofNat (48 + laK cl R dn up Z j)])) := bc_int _ h9'
        clear h9 h10
        generalize laK cl R dn up Z j = la at *
        have hla : (((la : Nat) : Int) == 10) = false := by rw [beq_eq_false_iff_ne]; omega
        go_wp2_with (first
          | (go_at_call 64; refine c64.mono ?_; rintro r w2 ⟨x0, x1, x2, rfl, hr2, q0, q1, q2, hm2⟩; have hown2 := (own_mut hown hRw hm2).alloc (.cells #[.int .u8 (48 + ((la : Nat) : Int))] 5); have hr2a := hr2.next (below1 w2 (.cells #[.int .u8 (48 + ((la : Nat) : Int))] 5)); have hB2 := bnx (hm2.out hB hgw (Nat.le_refl _)) (below1 w2 (.cells #[.int .u8 (48 + ((la : Nat) : Int))] 5)); have hbs2 : w.heap.size ≤ (w2.alloc (.cells #[.int .u8 (48 + ((la : Nat) : Int))] 5)).heap.size := hB2.size)
          | (at_builtin; refine wpList_append_lies _ rfl (.tmp 25) (.tmp 29) 80 rfl w.heap.size 5 i0 (.int .u8 0) 1 1 Tryz.underlying80 hi hz0 hz1 hz2 rfl (by decide) tv (dsN R Z j).length (Lib.byteCells (dsN R Z j)) rfl hown2 ⟨w2.heap.size, 0, none⟩ 1 1 [.int .u8 (48 + ((la : Nat) : Int))] rfl rfl (news1 _ _ _ (by simp)) (one1 _) (by decide) (by unfold maxLen; omega) (by omega) hbs2 _ rfl ?_; intro g1 cap1 w3 hown3 hgrow hat hlt3; have hown4 : w3.ownsRow w.heap.size 5 1 (.slice (some ⟨g1, 0, none⟩) ((dsN R Z j).length + 1) cap1) (dsN R Z j ++ [UInt8.ofNat (48 + la)]).length (Lib.byteCells (dsN R Z j ++ [UInt8.ofNat (48 + la)])) := (by rw [List.length_append, ← HBC.out]; exact hown3); have hcv := own_str hown4 (by simp)))
        exact bodyPost_ret (v := .tuple #[.string (B (dsN R Z j ++ [UInt8.ofNat (48 + la)])), .int .i64 E]) (by simp only [results, Tryz.results24]; go_simp) rfl ⟨by rw [HT.out, HC.out]; simp, hB2.grown hgrow hbs2 fun k hk => (hown2.lt k hk).1⟩
end Go.Proofs.YtoobncgmcnmgjaaGreatDoor

namespace Go.Proofs.YtoobncgmcnmgjaaGreatDoor
open Go.RowKit

/-- how many quarters below a number are read as it -/
def lwN (n x : Int) (k : Nat) : Nat := if nbB n x k then 1 else 2
def evK (k : Nat) : Bool := decide (k % 2 = 0)
/-- the first digit's place, and how many digits behind it -/
structure Shd (n x : Int) (k : Nat) (E : Int) (K : Nat) : Prop where
  t0 : tnP k x E
  t1 : ¬ tnP k x (E + 1)
  st : stK (evK k) (4 * k * oE x E) (lwN n x k * oE x E) (2 * oE x E) (zE x E) K = true
  mn : ∀ j, j < K → stK (evK k) (4 * k * oE x E) (lwN n x k * oE x E) (2 * oE x E) (zE x E) j = false
def sdT (n x : Int) (k : Nat) (E : Int) (K : Nat) : List UInt8 := shT (evK k) (4 * k * oE x E) (lwN n x k * oE x E) (2 * oE x E) (zE x E) K
def sdC (n x : Int) (k : Nat) (E : Int) (K : Nat) : Nat := shC (evK k) (4 * k * oE x E) (lwN n x k * oE x E) (2 * oE x E) (zE x E) K
theorem bin_x {n x : Int} (hb : binN n) (h1 : leastN n ≤ x) (h2 : x ≤ mostN n) : -16990 ≤ x ∧ x ≤ 16990 := by
  have h3 : -16990 ≤ leastN n ∧ mostN n ≤ 16990 := by
    rcases bin_cases hb with rfl | rfl | rfl | rfl | rfl | rfl <;> decide
  omega
theorem gs_in {k : Nat} {x : Int} (hk : k < 2 ^ 256) (hk0 : k ≠ 0) (hx : -16990 ≤ x ∧ x ≤ 16990) : tnP k x (gsP k x) ∧ -6000 ≤ gsP k x ∧ gsP k x < 6000 := by
  have hb : bl k ≤ 256 := bl_le.2 hk
  obtain ⟨b1, b2, b3⟩ := bl_bd hk0
  have e : ((bl k - 1 : Nat) : Int) = (bl k : Int) - 1 := by omega
  have := guess_ok (c := k) (L := bl k - 1) (x := x) b1 (by omega)
  rw [e] at this
  refine ⟨this, ?_⟩
  unfold gsP
  by_cases h0 : 0 ≤ (bl k : Int) - 1 + x
  · rw [Int.tdiv_eq_ediv_of_nonneg (by omega)]; omega
  · rw [show ((bl k : Int) - 1 + x) * 30103 = -(-((bl k : Int) - 1 + x) * 30103) by omega, Int.neg_tdiv, Int.tdiv_eq_ediv_of_nonneg (by omega)]; omega
theorem frac_up {q W : Nat} {x p : Int} (h : q * zE x p = W * oE x p) : ∀ j : Nat, q * zE x (p + j) = 10 ^ j * W * oE x (p + j)
  | 0 => by simpa using h
  | j + 1 => by
    have := frac_next (frac_up h j)
    rw [show p + ((j + 1 : Nat) : Int) = p + (j : Int) + 1 by omega, this, Nat.pow_succ]
    congr 1
    rw [← Nat.mul_assoc, Nat.mul_comm 10]
theorem Shd.ex {n x : Int} {k : Nat} (hk : k < 2 ^ 256) (hk0 : k ≠ 0) (hx : -16990 ≤ x ∧ x ≤ 16990) : ∃ E K, Shd n x k E K := by
  obtain ⟨g1, g2, g3⟩ := gs_in hk hk0 hx
  obtain ⟨E, e1, e2, e3, e4⟩ := tn_ex (6000 - gsP k x).toNat (gsP k x) g1 (by rw [show gsP k x + ((6000 - gsP k x).toNat : Int) = 6000 by omega]; exact tn_top hk (by omega))
  have hl : 0 < lwN n x k * oE x E := Nat.mul_pos (by unfold lwN; split <;> decide) (oE_pos _ _)
  obtain ⟨K, h1, h2⟩ := st_ex (c := evK k) (R := 4 * k * oE x E) (u := 2 * oE x E) (zE_pos x E) hl
  exact ⟨E, K, e3, e4, h1, h2⟩
theorem Shd.bd {n x : Int} {k : Nat} {E : Int} {K : Nat} (h : Shd n x k E K) (hk : k < 2 ^ 256) (hk0 : k ≠ 0) (hx : -16990 ≤ x ∧ x ≤ 16990) : -6000 ≤ E ∧ E < 6000 ∧ K ≤ 80 := by
  obtain ⟨g1, g2, g3⟩ := gs_in hk hk0 hx
  refine ⟨?_, ?_, ?_⟩
  · rcases Int.lt_or_le E (-6000) with h' | h'
    · exact absurd (tn_le g1 (by omega)) h.t1
    · exact h'
  · rcases Int.lt_or_le E 6000 with h' | h'
    · exact h'
    · exact absurd (tn_le h.t0 h') (tn_top hk (by omega))
  · refine st_le (M := 4 * k) (zE_pos x E) ?_ (Nat.mul_pos (by unfold lwN; split <;> decide) (oE_pos _ _)) h.mn 80 ?_
    · refine Nat.le_trans h.t0 (Nat.mul_le_mul_left _ (Nat.le_mul_of_pos_left _ (by unfold lwN; split <;> decide)))
    · have : 4 * 2 ^ 256 < 10 ^ 80 := by decide
      omega
/-- digits and the first one's place -/
theorem digitsOf_v {n x : Int} {k : Nat} {E : Int} {K : Nat} (c : Int) (s g : Bool) (w : World) (hT : Tab w) (hb : binN n) (hk : k < 2 ^ 256) (hk0 : k ≠ 0) (hx : -16990 ≤ x ∧ x ≤ 16990) (h : Shd n x k E K) :
    Calls Tryz.prog 24 #[.int .i64 n, DV c s g x k] w fun r w' => r = .returned (.tuple #[.string (B (sdT n x k E K)), .int .i64 (E + (sdC n x k E K : Nat))]) ∧ Below w.heap.size w w' := by
  obtain ⟨hE1, hE2, hK⟩ := h.bd hk hk0 hx
  obtain ⟨g1, g2, g3⟩ := gs_in hk hk0 hx
  have hpE : gsP k x ≤ E := by
    rcases Int.lt_or_le E (gsP k x) with h' | h'
    · exact absurd (tn_le g1 (by omega)) h.t1
    · exact h'
  have hq := (qr_pos x (gsP k x)).1
  have hqb := qr_bl (x := x) (p := gsP k x) (by omega) (by omega)
  have h0 := qr_eq x (gsP k x)
  have hup := frac_up h0 (E - gsP k x).toNat
  rw [show gsP k x + ((E - gsP k x).toNat : Int) = E by omega] at hup
  have hbk : bl k ≤ 256 := bl_le.2 hk
  have c95 := fun W => guess_v c s g x k W hk (by omega)
  have c96 : ∀ W, Tab W → Calls Tryz.prog 97 #[.int .i64 n, DV c s g x k, .int .i64 (gsP k x)] W fun r w' => ∃ gq v0 v1 v2 v3, r = .returned (.pointer (some ⟨gq, 0, none⟩)) ∧ W.heap.size ≤ gq ∧ Rch gq v0 v1 v2 v3 (evK k) w' ∧ NT 2001 (4 * k * qrQ x (gsP k x)) v0 w' ∧ NT 2001 (lwN n x k * qrQ x (gsP k x)) v1 w' ∧ NT 2001 (2 * qrQ x (gsP k x)) v2 w' ∧ NT 2001 (qrW x (gsP k x)) v3 w' ∧ Below W.heap.size W w' := fun W hW => by
    have := bounds_v n c s g x k (gsP k x) W hW hb hk hx (by omega)
    rw [show k * qrQ x (gsP k x) * 4 = 4 * k * qrQ x (gsP k x) by rw [Nat.mul_comm _ 4, Nat.mul_assoc], show (if nbB n x k = true then qrQ x (gsP k x) else qrQ x (gsP k x) * 2) = lwN n x k * qrQ x (gsP k x) by unfold lwN; split <;> omega, Nat.mul_comm (qrQ x (gsP k x)) 2] at this
    exact this
  generalize gsP k x = p at *
  generalize qrQ x p = q at *
  generalize qrW x p = W0 at *
  generalize hZd : 10 ^ (E - p).toNat * W0 = Z at *
  have hN : bl (4 * k * q) ≤ 45000 := by
    have a1 := bl_mul (4 * k) q
    have a2 := bl_mul 4 k
    have a3 : bl 4 = 3 := by decide
    omega
  have c63 : ∀ W, Tab W → Calls Tryz.prog 63 #[.int .i64 n, DV c s g x k] W fun r w' => ∃ gq v0 v1 v2 v3, r = .returned (.tuple #[.pointer (some ⟨gq, 0, none⟩), .int .i64 E]) ∧ W.heap.size ≤ gq ∧ Rch gq v0 v1 v2 v3 (evK k) w' ∧ NT 2001 (4 * k * q) v0 w' ∧ NT 2001 (lwN n x k * q) v1 w' ∧ NT 2001 (2 * q) v2 w' ∧ NT 2001 Z v3 w' ∧ Below W.heap.size W w' := fun W hW => by
    refine (scaled_w n c s g x k p E (evK k) (4 * k * q) (lwN n x k * q) (2 * q) q W0 W hW hq rfl (by omega) ⟨hpE, by omega, by omega⟩ h.t1 g1 h0 c95 c96).mono ?_
    rintro r w' ⟨gq, v0, v1, v2, v3, e, Z', e1, e2, e3, e4, e5, e6, e7, e8, e9, e10, e11, e12⟩
    obtain rfl := tn_uniq e10 e11 h.t0 h.t1
    have : Z' = Z := Nat.eq_of_mul_eq_mul_right (oE_pos x e) (e9.symm.trans hup)
    subst this
    exact ⟨gq, v0, v1, v2, v3, e1, e2, e3, e4, e5, e6, e7, e8⟩
  have hZR : Z ≤ 4 * k * q := by
    have := (frac_tn (c := k) hq hup 1).2 (by rw [Nat.one_mul]; exact h.t0)
    omega
  have hR : 4 * k * q < 10 * Z := by
    rcases Nat.lt_or_ge (4 * k * q) (10 * Z) with h' | h'
    · exact h'
    · exact absurd (tn_next.2 ((frac_tn (c := k) hq hup 10).1 h')) h.t1
  have hZ : 0 < Z := by
    rcases Nat.eq_zero_or_pos Z with h' | h'
    · omega
    · exact h'
  have hqk : 2 * q ≤ 4 * k * q := Nat.mul_le_mul_right q (by omega)
  have hlw : lwN n x k * q ≤ 2 * q := Nat.mul_le_mul_right q (by unfold lwN; split <;> omega)
  have cr := fun j => sh_cross (evK k) hZ (zE_pos x E) (R := 4 * k * q) (R' := 4 * k * oE x E) (d := lwN n x k * q) (d' := lwN n x k * oE x E) (u := 2 * q) (u' := 2 * oE x E) (by rw [Nat.mul_assoc, hup, Nat.mul_assoc (4 * k), Nat.mul_comm Z]) (by rw [Nat.mul_assoc, hup, Nat.mul_assoc (lwN n x k), Nat.mul_comm Z]) (by rw [Nat.mul_assoc, hup, Nat.mul_assoc 2, Nat.mul_comm Z]) j
  have := digitsOf_w n c s g x k E (evK k) (4 * k * q) (lwN n x k * q) (2 * q) Z K w hT (by omega) hZ hR hZR (by omega) (by omega) (by have := bl_mono hZR; omega) (by omega) (by rw [(cr K).1]; exact h.st) (fun j hj => by rw [(cr j).1]; exact h.mn j hj) c63
  rw [(cr K).2.1, (cr K).2.2] at this
  exact this
end Go.Proofs.YtoobncgmcnmgjaaGreatDoor

namespace Go.Proofs.YtoobncgmcnmgjaaGreatDoor

/-- the highest bit of a fraction whose floor is j -/
theorem ld_floor {N D j : Nat} (hj : j ≠ 0) (hD : D ≠ 0) (h1 : j * D ≤ N) (h2 : N < (j + 1) * D) : ld N D = (bl j : Int) - 1 := by
  obtain ⟨k1, k2, k3⟩ := bl_bd hj
  have hDp : 0 < D := Nat.pos_of_ne_zero hD
  have hN : N ≠ 0 := by
    have : 1 * D ≤ j * D := Nat.mul_le_mul_right _ (Nat.pos_of_ne_zero hj)
    omega
  obtain ⟨K, hK⟩ : ∃ K : Nat, K = bl D + 2 + bl N := ⟨_, rfl⟩
  obtain ⟨e1, e2⟩ := ld_bd hN hD K (by omega)
  have hl : (bl N : Int) - bl D - 1 ≤ ld N D ∧ ld N D ≤ (bl N : Int) - bl D := by
    unfold ld; dsimp only; split <;> omega
  have a1 : 2 ^ ((K : Int) + ld N D).toNat < 2 ^ (bl j + K) := by
    refine Nat.lt_of_mul_lt_mul_left (a := D) ?_
    refine Nat.lt_of_le_of_lt e1 ?_
    refine Nat.lt_of_lt_of_le (Nat.mul_lt_mul_of_pos_right h2 (Nat.two_pow_pos K)) ?_
    rw [Nat.pow_add, Nat.mul_comm D, Nat.mul_right_comm]
    exact Nat.mul_le_mul_right _ (Nat.mul_le_mul_right _ k2)
  have a2 : 2 ^ (bl j - 1 + K) < 2 ^ ((K : Int) + ld N D + 1).toNat := by
    refine Nat.lt_of_mul_lt_mul_left (a := D) ?_
    refine Nat.lt_of_le_of_lt ?_ e2
    rw [Nat.pow_add, Nat.mul_comm D, Nat.mul_right_comm]
    exact Nat.mul_le_mul_right _ (Nat.le_trans (Nat.mul_le_mul_right _ k1) h1)
  have b1 := (Nat.pow_lt_pow_iff_right (by decide : 1 < 2)).1 a1
  have b2 := (Nat.pow_lt_pow_iff_right (by decide : 1 < 2)).1 a2
  omega
/-- a fraction below one -/
theorem ld_under {N D : Nat} (hN : N ≠ 0) (hD : D ≠ 0) (h : N < D) : ld N D ≤ -1 := by
  obtain ⟨K, hK⟩ : ∃ K : Nat, K = bl D + 2 + bl N := ⟨_, rfl⟩
  obtain ⟨e1, e2⟩ := ld_bd hN hD K (by omega)
  have hl : (bl N : Int) - bl D - 1 ≤ ld N D ∧ ld N D ≤ (bl N : Int) - bl D := by
    unfold ld; dsimp only; split <;> omega
  have a1 : 2 ^ ((K : Int) + ld N D).toNat < 2 ^ K := by
    refine Nat.lt_of_mul_lt_mul_left (a := D) ?_
    exact Nat.lt_of_le_of_lt e1 (Nat.mul_lt_mul_of_pos_right h (Nat.two_pow_pos K))
  have b1 := (Nat.pow_lt_pow_iff_right (by decide : 1 < 2)).1 a1
  omega
/-- what the fraction's floor is rounded to -/
theorem rP_floor {n : Int} (d : Int) (s : Bool) {N D j : Nat} {q : Int} (hbn : binN n) (hq1 : leastN n ≤ q) (hq2 : q ≤ mostN n) (hj1 : j < 2 ^ (fN n + 1)) (hj2 : 2 ^ fN n ≤ j ∨ q = leastN n)
    (hN : 2 * N ≥ D) (hD : D ≠ 0) (h1 : j * D ≤ N) (h2 : N < (j + 1) * D) :
    rP n d s N D q = (q - leastN n).toNat * 2 ^ fN n + j + if faB d s (decide (j % 2 = 1)) (N - j * D) D then 1 else 0 := by
  have hF := bin_fm hbn
  have hm := hF.m
  have hDp : 0 < D := Nat.pos_of_ne_zero hD
  have hN0 : N ≠ 0 := by omega
  have hXQ : rX n N D q = q ∧ rQ n N D q = q := by
    by_cases hj : j = 0
    · subst hj
      have hL := ld_under hN0 hD (by omega)
      have hL2 : -1 ≤ ld N D := by
        have := ld_ge (N := 2 * N) (D := D) (k := 0) (by omega) hD (by omega)
        have e : ld (2 * N) D = ld N D + 1 := by
          have := ld_shift hN0 hD 1 0
          rw [Nat.pow_zero, Nat.mul_one, Nat.pow_one, Nat.mul_comm N 2] at this
          omega
        omega
      have hql : q = leastN n := by
        rcases hj2 with h | h
        · have := Nat.two_pow_pos (fN n); omega
        · exact h
      have hX : rX n N D q = q := by unfold rX wiZ; omega
      refine ⟨hX, ?_⟩
      unfold rQ; rw [hX]; omega
    · have hL := ld_floor hj hD h1 h2
      obtain ⟨k1, k2, k3⟩ := bl_bd hj
      have hbl : bl j ≤ fN n + 1 := bl_le.2 hj1
      have hX : rX n N D q = q := by unfold rX wiZ; rw [hL]; omega
      refine ⟨hX, ?_⟩
      unfold rQ; rw [hX, hL]
      rcases hj2 with h | h
      · have : fN n < bl j := bl_ge.2 h
        omega
      · omega
  have hq0 : nrQ N D (q - q) = j ∧ nrR N D (q - q) = N - j * D := by
    unfold nrQ nrR
    rw [Int.sub_self]
    simp only [Int.toNat_zero, Nat.pow_zero, Nat.mul_one, Int.neg_zero]
    have e : N / D = j := by
      refine Nat.div_eq_of_lt_le h1 h2
    refine ⟨e, ?_⟩
    have := Nat.div_add_mod N D
    rw [e, Nat.mul_comm] at this
    omega
  rw [rP_eq]
  unfold rB nrF
  rw [hXQ.1, hXQ.2, hq0.1, hq0.2, Int.sub_self]
  simp only [Int.toNat_zero, Nat.pow_zero, Nat.mul_one, Int.neg_zero]
theorem tp_above {n : Int} {s : Bool} {q : Int} {k : Nat} (hbn : binN n) (h : isD (fN n) (leastN n) (mostN n) ⟨1, s, false, q, k⟩) : ¬ tpN n ≤ (q - leastN n).toNat * 2 ^ fN n + k := by
  have hF := bin_fm hbn
  have hp := pow_e hF.e2 hF.e15
  have hm := hF.m
  rcases h with ⟨_, _, hk1, hx1, hx2, hx3⟩ | ⟨hc, _⟩ | ⟨hc, _⟩
  · dsimp only at hk1 hx1 hx2 hx3
    unfold tpN
    have hpc : ((2 : Int) ^ eN n) = ((2 ^ eN n : Nat) : Int) := by simp
    rw [hpc] at hp hm
    rw [Nat.pow_succ] at hk1
    have h3 : ((q - leastN n).toNat + 2) * 2 ^ fN n ≤ (2 ^ eN n - 1) * 2 ^ fN n := Nat.mul_le_mul_right _ (by omega)
    rw [Nat.add_mul] at h3
    omega
  · exact absurd (show (1 : Int) = 2 from hc) (by decide)
  · exact absurd (show (1 : Int) = 3 from hc) (by decide)
theorem rd_of_rP {n : Int} (d : Int) {s : Bool} {q x : Int} {k N D : Nat} (hbn : binN n) (h : isD (fN n) (leastN n) (mostN n) ⟨1, s, false, q, k⟩) (hN : N ≠ 0) (hD : D ≠ 0)
    (hP : rP n d s N D x = (q - leastN n).toNat * 2 ^ fN n + k) : rdV n d s N D x = pkV n ⟨1, s, false, q, k⟩ ∧ (rdF n d s N D x = 0 ∨ rdF n d s N D x = 8 ∨ rdF n d s N D x = 12) := by
  have hno := tp_above hbn h
  rw [pk_fin hbn h, r_pat d s x hbn hN hD, r_flag d s x hbn hN hD, hP]
  unfold capV
  rw [if_neg hno, if_neg hno]
  refine ⟨rfl, ?_⟩
  split
  · exact Or.inl rfl
  · split
    · exact Or.inr (Or.inr rfl)
    · exact Or.inr (Or.inl rfl)
theorem ev_odd (k : Nat) (h : k ≠ 0) : (evK k = true → k % 2 = 0 ∧ (k - 1) % 2 = 1) ∧ (evK k = false → k % 2 = 1 ∧ (k - 1) % 2 = 0) := by
  unfold evK
  simp
  omega
/-- what lies within a number's reach is rounded to it -/
theorem rd_near {n : Int} {s : Bool} {q : Int} {k N D : Nat} (hbn : binN n) (h : isD (fN n) (leastN n) (mostN n) ⟨1, s, false, q, k⟩) (hk : k ≠ 0) (hD : D ≠ 0)
    (hw : (k * D ≤ N ∧ wiN (evK k) (4 * N - 4 * (k * D)) (2 * D) = true) ∨ (N ≤ k * D ∧ wiN (evK k) (4 * (k * D) - 4 * N) (lwN n q k * D) = true)) :
    rdV n 0 s N D q = pkV n ⟨1, s, false, q, k⟩ ∧ (rdF n 0 s N D q = 0 ∨ rdF n 0 s N D q = 8 ∨ rdF n 0 s N D q = 12) := by
  have hDp : 0 < D := Nat.pos_of_ne_zero hD
  have hkD : D ≤ k * D := by
    have := Nat.mul_le_mul_right D (Nat.pos_of_ne_zero hk)
    omega
  obtain ⟨hev, hod⟩ := ev_odd k hk
  obtain ⟨hk1, hx1, hx2, hx3⟩ : k < 2 ^ (fN n + 1) ∧ leastN n ≤ q ∧ q ≤ mostN n ∧ (2 ^ fN n ≤ k ∨ q = leastN n) := by
    rcases h with ⟨_, _, hk1, hx1, hx2, hx3⟩ | ⟨hc, _⟩ | ⟨hc, _⟩
    · exact ⟨hk1, hx1, hx2, hx3⟩
    · exact absurd (show (1 : Int) = 2 from hc) (by decide)
    · exact absurd (show (1 : Int) = 3 from hc) (by decide)
  have hi : (k + 1) * D = k * D + D := Nat.succ_mul _ _
  by_cases hge : k * D ≤ N
  · -- at or above
    have hw' : wiN (evK k) (4 * N - 4 * (k * D)) (2 * D) = true := by
      rcases hw with h | h
      · exact h.2
      · have : 4 * N - 4 * (k * D) = 0 := by omega
        rw [this]; unfold wiN; rw [decide_eq_true (by omega : 0 < 2 * D)]; rfl
    have hle : 4 * N - 4 * (k * D) < 2 * D ∨ (4 * N - 4 * (k * D) = 2 * D ∧ evK k = true) := by
      unfold wiN at hw'
      simpa using hw'
    have hP := rP_floor (n := n) 0 s (N := N) (D := D) (j := k) (q := q) hbn hx1 hx2 hk1 hx3 (by omega) hD hge (by omega)
    have hf : faB 0 s (decide (k % 2 = 1)) (N - k * D) D = false := by
      unfold faB
      rcases hle with h | ⟨h, he⟩
      · simp; omega
      · have := (hev he).1
        simp; omega
    rw [hf] at hP
    exact rd_of_rP 0 hbn h (by omega) hD (by simpa using hP)
  · have hlt : N < k * D := by omega
    have hw' : wiN (evK k) (4 * (k * D) - 4 * N) (lwN n q k * D) = true := by
      rcases hw with h | h
      · exact absurd h.1 hge
      · exact h.2
    have hle : 4 * (k * D) - 4 * N < lwN n q k * D ∨ (4 * (k * D) - 4 * N = lwN n q k * D ∧ evK k = true) := by
      unfold wiN at hw'
      simpa using hw'
    obtain ⟨j, rfl⟩ : ∃ j, k = j + 1 := ⟨k - 1, by omega⟩
    have hj : (j + 1) * D = j * D + D := Nat.succ_mul _ _
    rw [Nat.add_sub_cancel] at hev hod
    cases hnb : nbB n q (j + 1)
    · rw [show lwN n q (j + 1) = 2 by unfold lwN; rw [hnb]; rfl] at hle
      have hj2 : 2 ^ fN n ≤ j ∨ q = leastN n := by
        unfold nbB at hnb
        simp at hnb
        rcases hx3 with h | h
        · by_cases hq : q = leastN n
          · exact Or.inr hq
          · have := hnb (by omega)
            omega
        · exact Or.inr h
      have hP := rP_floor (n := n) 0 s (N := N) (D := D) (j := j) (q := q) hbn hx1 hx2 (by omega) hj2 (by omega) hD (by omega) (by omega)
      have hf : faB 0 s (decide (j % 2 = 1)) (N - j * D) D = true := by
        unfold faB
        rcases hle with h | ⟨h, he⟩
        · simp; omega
        · have := (hev he).2
          simp; omega
      rw [hf] at hP
      exact rd_of_rP 0 hbn h (by omega) hD (by rw [hP]; simp; omega)
    · rw [show lwN n q (j + 1) = 1 by unfold lwN; rw [hnb]; rfl] at hle
      unfold nbB at hnb
      simp at hnb
      obtain ⟨hq, hkf⟩ := hnb
      have e := rd_shift n 0 s N hD 1 0 (q - 1)
      rw [Nat.pow_zero, Nat.mul_one, Nat.pow_one, show q - 1 + (((1 : Nat) : Int) - ((0 : Nat) : Int)) = q by omega] at e
      rw [← e.1, ← e.2]
      have hj3 : (2 * j + 1) * D = 2 * (j * D) + D := by rw [Nat.add_mul, Nat.one_mul, Nat.mul_assoc]
      have hj4 : (2 * j + 1 + 1) * D = 2 * (j * D) + D + D := by rw [Nat.succ_mul, hj3]
      have h2f : 2 ^ (fN n + 1) = 2 * 2 ^ fN n := by rw [Nat.pow_succ, Nat.mul_comm]
      have hP := rP_floor (n := n) 0 s (N := N * 2) (D := D) (j := 2 * j + 1) (q := q - 1) hbn (by omega) (by omega) (by omega) (Or.inl (by omega)) (by omega) hD (by omega) (by omega)
      have hf : faB 0 s (decide ((2 * j + 1) % 2 = 1)) (N * 2 - (2 * j + 1) * D) D = true := by
        unfold faB
        rw [hj3]
        simp; omega
      rw [hf] at hP
      refine rd_of_rP 0 hbn h (by omega) hD ?_
      rw [hP]
      have e3 : (q - leastN n).toNat = (q - 1 - leastN n).toNat + 1 := by omega
      have e4 : ((q - 1 - leastN n).toNat + 1) * 2 ^ fN n = (q - 1 - leastN n).toNat * 2 ^ fN n + 2 ^ fN n := Nat.succ_mul _ _
      rw [e3, e4]
      simp only [if_true]
      omega
end Go.Proofs.YtoobncgmcnmgjaaGreatDoor

namespace Go.Proofs.YtoobncgmcnmgjaaGreatDoor

theorem rd_sign {n : Int} (s : Bool) (N : Nat) {D : Nat} (x : Int) (hb : binN n) (hD : D ≠ 0) : rdV n 0 s N D x = rdV n 0 false N D x + sgN n s := by
  cases s
  · unfold sgN; simp
  · have := (rd_turn 0 N x hb hD).1
    rw [show othD 0 = 0 by decide] at this
    rw [this]; unfold sgN; simp
theorem rd_quad {n : Int} (N : Nat) {D : Nat} (x : Int) (hD : D ≠ 0) : rdV n 0 false (N * 4) (D * 4) x = rdV n 0 false N D x := by
  have := (rd_shift n 0 false N hD 2 2 x).1
  rw [show x + (((2 : Nat) : Int) - ((2 : Nat) : Int)) = x by omega] at this
  exact this
/-- the value of a floor, to the nearest -/
theorem rd_step {n : Int} {N D j p : Nat} {q x : Int} (hb : binN n) (hN : N ≠ 0) (hD : D ≠ 0) (hP : rP n 0 false N D x = p) (ht : p ≤ tpN n) : rdV n 0 false N D x = p := by
  rw [r_pat 0 false x hb hN hD, hP]
  unfold capV sgN
  have : inB 0 false = true := by decide
  rw [this]
  simp
  omega
set_option maxHeartbeats 800000 in
theorem rd_far {n : Int} {s : Bool} {q : Int} {k N D : Nat} (hbn : binN n) (h : isD (fN n) (leastN n) (mostN n) ⟨1, s, false, q, k⟩) (hk : k ≠ 0) (hD : D ≠ 0)
    (hw : (k * D ≤ N ∧ wiN (evK k) (4 * N - 4 * (k * D)) (2 * D) = false) ∨ (N ≤ k * D ∧ wiN (evK k) (4 * (k * D) - 4 * N) (lwN n q k * D) = false)) :
    rdV n 0 s N D q ≠ pkV n ⟨1, s, false, q, k⟩ := by
  have hno := tp_above hbn h
  have hF := bin_fm hbn
  have hf1 : 1 ≤ fN n := by
    rcases bin_cases hbn with rfl | rfl | rfl | rfl | rfl | rfl <;> decide
  rw [rd_sign s N q hbn hD, pk_fin hbn h]
  intro he
  have he : rdV n 0 false N D q = (q - leastN n).toNat * 2 ^ fN n + k := Nat.add_right_cancel he
  have hDp : 0 < D := Nat.pos_of_ne_zero hD
  have hD4 : D * 4 ≠ 0 := by omega
  obtain ⟨hev, hod⟩ := ev_odd k hk
  obtain ⟨hk1, hx1, hx2, hx3⟩ : k < 2 ^ (fN n + 1) ∧ leastN n ≤ q ∧ q ≤ mostN n ∧ (2 ^ fN n ≤ k ∨ q = leastN n) := by
    rcases h with ⟨_, _, hk1, hx1, hx2, hx3⟩ | ⟨hc, _⟩ | ⟨hc, _⟩
    · exact ⟨hk1, hx1, hx2, hx3⟩
    · exact absurd (show (1 : Int) = 2 from hc) (by decide)
    · exact absurd (show (1 : Int) = 3 from hc) (by decide)
  obtain ⟨j, rfl⟩ : ∃ j, k = j + 1 := ⟨k - 1, by omega⟩
  rw [Nat.add_sub_cancel] at hev hod
  have hj : (j + 1) * D = j * D + D := Nat.succ_mul _ _
  have hj4 : j * (D * 4) = 4 * (j * D) := by rw [← Nat.mul_assoc, Nat.mul_comm]
  have hj5 : (j + 1) * (D * 4) = 4 * (j * D) + 4 * D := by rw [Nat.succ_mul, hj4]; omega
  have hj6 : (j + 1 + 1) * (D * 4) = 4 * (j * D) + 4 * D + 4 * D := by rw [Nat.succ_mul, hj5]; omega
  rw [hj] at hw
  rcases hw with ⟨hge, hw⟩ | ⟨hle, hw⟩
  · -- above
    have hlt : 2 * D < 4 * N - 4 * (j * D + D) ∨ (2 * D ≤ 4 * N - 4 * (j * D + D) ∧ evK (j + 1) = false) := by
      unfold wiN at hw
      simp at hw
      cases hc : evK (j + 1)
      · exact Or.inr ⟨by omega, rfl⟩
      · left
        have := hw.2
        rw [hc] at this
        have h3 : ¬ 4 * N - 4 * (j * D + D) = 2 * D := fun h => absurd (this h) (by decide)
        omega
    obtain ⟨t, ht⟩ : ∃ t, (evK (j + 1) = true ∧ t = 1) ∨ (evK (j + 1) = false ∧ t = 0) := by
      cases hc : evK (j + 1)
      · exact ⟨0, Or.inr ⟨rfl, rfl⟩⟩
      · exact ⟨1, Or.inl ⟨rfl, rfl⟩⟩
    have hN1 : 4 * (j * D) + 4 * D + 2 * D + t ≤ N * 4 := by
      rcases ht with ⟨h1, h2⟩ | ⟨h1, h2⟩ <;> rw [h1] at hlt <;> simp at hlt <;> omega
    have ht1 : t ≤ 1 := by omega
    have hP := rP_floor (n := n) 0 false (N := 4 * (j * D) + 4 * D + 2 * D + t) (D := D * 4) (j := j + 1) (q := q) hbn hx1 hx2 hk1 hx3 (by omega) hD4 (by omega) (by omega)
    have hf : faB 0 false (decide ((j + 1) % 2 = 1)) (4 * (j * D) + 4 * D + 2 * D + t - (j + 1) * (D * 4)) (D * 4) = true := by
      rw [hj5, show 4 * (j * D) + 4 * D + 2 * D + t - (4 * (j * D) + 4 * D) = 2 * D + t by omega]
      unfold faB
      rcases ht with ⟨h1, h2⟩ | ⟨h1, h2⟩
      · simp; omega
      · have := (hod h1).1
        simp; omega
    rw [hf, if_pos rfl] at hP
    have hv := rd_step (j := j) (q := q) hbn (by omega) hD4 hP (by omega)
    have hmo := rd_mono (n := n) 0 (4 * (j * D) + 4 * D + 2 * D + t) (N * 4) (D := D * 4) q hbn hD4 hN1
    rw [hv, rd_quad N q hD, he] at hmo
    omega
  · cases hnb : nbB n q (j + 1)
    · rw [show lwN n q (j + 1) = 2 by unfold lwN; rw [hnb]; rfl] at hw
      have hlt : 2 * D < 4 * (j * D + D) - 4 * N ∨ (2 * D ≤ 4 * (j * D + D) - 4 * N ∧ evK (j + 1) = false) := by
        unfold wiN at hw
        simp at hw
        cases hc : evK (j + 1)
        · exact Or.inr ⟨by omega, rfl⟩
        · left
          have := hw.2
          rw [hc] at this
          have h3 : ¬ 4 * (j * D + D) - 4 * N = 2 * D := fun h => absurd (this h) (by decide)
          omega
      have hj2 : 2 ^ fN n ≤ j ∨ q = leastN n := by
        unfold nbB at hnb
        simp at hnb
        rcases hx3 with h | h
        · by_cases hq : q = leastN n
          · exact Or.inr hq
          · have := hnb (by omega)
            omega
        · exact Or.inr h
      obtain ⟨t, ht⟩ : ∃ t, (evK (j + 1) = true ∧ t = 1) ∨ (evK (j + 1) = false ∧ t = 0) := by
        cases hc : evK (j + 1)
        · exact ⟨0, Or.inr ⟨rfl, rfl⟩⟩
        · exact ⟨1, Or.inl ⟨rfl, rfl⟩⟩
      have hN1 : N * 4 ≤ 4 * (j * D) + 2 * D - t := by
        rcases ht with ⟨h1, h2⟩ | ⟨h1, h2⟩ <;> rw [h1] at hlt <;> simp at hlt <;> omega
      have ht1 : t ≤ 1 := by omega
      have hbig : 2 * (4 * (j * D) + 2 * D - t) ≥ D * 4 := by
        rcases ht with ⟨h1, h2⟩ | ⟨h1, h2⟩
        · have h3 := (hev h1).2
          have : 1 * D ≤ j * D := Nat.mul_le_mul_right _ (by omega)
          omega
        · omega
      have hP := rP_floor (n := n) 0 false (N := 4 * (j * D) + 2 * D - t) (D := D * 4) (j := j) (q := q) hbn hx1 hx2 (by omega) hj2 hbig hD4 (by omega) (by omega)
      have hf : faB 0 false (decide (j % 2 = 1)) (4 * (j * D) + 2 * D - t - j * (D * 4)) (D * 4) = false := by
        rw [hj4, show 4 * (j * D) + 2 * D - t - 4 * (j * D) = 2 * D - t by omega]
        unfold faB
        rcases ht with ⟨h1, h2⟩ | ⟨h1, h2⟩
        · simp; omega
        · have := (hod h1).2
          simp; omega
      rw [hf] at hP
      have hP2 : rP n 0 false (4 * (j * D) + 2 * D - t) (D * 4) q = (q - leastN n).toNat * 2 ^ fN n + j := by rw [hP, if_neg (by decide), Nat.add_zero]
      have hz : 4 * (j * D) + 2 * D - t ≠ 0 := by omega
      have hv := rd_step (j := j) (q := q) hbn hz hD4 hP2 (by omega)
      have hmo := rd_mono (n := n) 0 (N * 4) (4 * (j * D) + 2 * D - t) (D := D * 4) q hbn hD4 hN1
      rw [hv, rd_quad N q hD, he] at hmo
      omega
    · rw [show lwN n q (j + 1) = 1 by unfold lwN; rw [hnb]; rfl] at hw
      unfold nbB at hnb
      simp at hnb
      obtain ⟨hq, hkf⟩ := hnb
      have hke : evK (j + 1) = true := by
        unfold evK; rw [hkf]
        obtain ⟨f, hf⟩ : ∃ f, fN n = f + 1 := ⟨fN n - 1, by omega⟩
        rw [hf, Nat.pow_succ]; simp
      have hlt : D < 4 * (j * D + D) - 4 * N := by
        unfold wiN at hw
        rw [hke] at hw
        simp at hw
        omega
      have e := (rd_shift n 0 false N hD 1 0 (q - 1)).1
      rw [Nat.pow_zero, Nat.mul_one, Nat.pow_one, show q - 1 + (((1 : Nat) : Int) - ((0 : Nat) : Int)) = q by omega] at e
      rw [← e] at he
      have h2f : 2 ^ (fN n + 1) = 2 * 2 ^ fN n := by rw [Nat.pow_succ, Nat.mul_comm]
      have hj7 : (2 * j + 1) * (D * 4) = 8 * (j * D) + 4 * D := by rw [Nat.add_mul, Nat.one_mul, Nat.mul_assoc, hj4]; omega
      have hj8 : (2 * j + 1 + 1) * (D * 4) = 8 * (j * D) + 4 * D + 4 * D := by rw [Nat.succ_mul, hj7]; omega
      have hP := rP_floor (n := n) 0 false (N := 8 * (j * D) + 4 * D + 2 * D - 1) (D := D * 4) (j := 2 * j + 1) (q := q - 1) hbn (by omega) (by omega) (by omega) (Or.inl (by omega)) (by omega) hD4 (by omega) (by omega)
      have hf : faB 0 false (decide ((2 * j + 1) % 2 = 1)) (8 * (j * D) + 4 * D + 2 * D - 1 - (2 * j + 1) * (D * 4)) (D * 4) = false := by
        rw [hj7, show 8 * (j * D) + 4 * D + 2 * D - 1 - (8 * (j * D) + 4 * D) = 2 * D - 1 by omega]
        unfold faB
        simp; omega
      rw [hf] at hP
      have e3 : (q - leastN n).toNat = (q - 1 - leastN n).toNat + 1 := by omega
      have e4 : ((q - 1 - leastN n).toNat + 1) * 2 ^ fN n = (q - 1 - leastN n).toNat * 2 ^ fN n + 2 ^ fN n := Nat.succ_mul _ _
      rw [e3, e4] at he hno
      have hP2 : rP n 0 false (8 * (j * D) + 4 * D + 2 * D - 1) (D * 4) (q - 1) = (q - 1 - leastN n).toNat * 2 ^ fN n + (2 * j + 1) := by rw [hP, if_neg (by decide), Nat.add_zero]
      have hz : 8 * (j * D) + 4 * D + 2 * D - 1 ≠ 0 := by omega
      have hv := rd_step (j := j) (q := q) hbn hz hD4 hP2 (by omega)
      have hmo := rd_mono (n := n) 0 (N * 2 * 4) (8 * (j * D) + 4 * D + 2 * D - 1) (D := D * 4) (q - 1) hbn hD4 (by omega)
      rw [hv, rd_quad (N * 2) (q - 1) hD, he] at hmo
      omega
end Go.Proofs.YtoobncgmcnmgjaaGreatDoor
