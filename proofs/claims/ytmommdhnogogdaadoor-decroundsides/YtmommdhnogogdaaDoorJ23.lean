/-
  Texts that the proof leans on, joined: Uf.
-/
import Derived.Test.YtmommdhnogogdaaDoorJ22
set_option linter.unusedVariables false
set_option linter.unusedSectionVars false
set_option linter.unusedSimpArgs false
set_option maxRecDepth 20000
namespace Go.Proofs.YtmommdhnogogdaaDoor
open Go.RowKit
theorem tnE_find {N D : Nat} (lo : Int) (h : tnG N D lo) : ∀ k : Nat, ¬ tnG N D (lo + k) → ∃ E, TnE N D E
  | 0, h' => absurd (by simpa using h) h'
  | k + 1, h' => by
    by_cases hk : tnG N D (lo + k)
    · exact ⟨lo + k, hk, by rw [show lo + (k : Int) + 1 = lo + ((k + 1 : Nat) : Int) by omega]; exact h'⟩
    · exact tnE_find lo h k hk
theorem tnE_ex {N D : Nat} (hN : 0 < N) (hD : 0 < D) : ∃ E, TnE N D E := by
  refine tnE_find (-(D : Int)) ?_ (N + D) ?_
  · unfold tnG
    rw [show (-(D : Int)).toNat = 0 by omega, Int.neg_neg, Int.toNat_natCast, Nat.pow_zero, Nat.mul_one]
    have h1 : D < 10 ^ D := Nat.lt_pow_self (by decide)
    exact Nat.le_trans (Nat.le_of_lt h1) (Nat.le_mul_of_pos_left _ hN)
  · rw [show -(D : Int) + ((N + D : Nat) : Int) = (N : Int) by omega]
    unfold tnG
    rw [show (-(N : Int)).toNat = 0 by omega, Int.toNat_natCast, Nat.pow_zero, Nat.mul_one]
    have h1 : N < 10 ^ N := Nat.lt_pow_self (by decide)
    have h2 : 10 ^ N ≤ D * 10 ^ N := Nat.le_mul_of_pos_left _ hD
    omega
/-- the exponent as the document takes it -/
def clT (x : Int) : Int := min (max x (-20000)) 20000
theorem clT_bd (x : Int) : -20000 ≤ clT x ∧ clT x ≤ 20000 := by unfold clT; omega
theorem sgnC_ge {A B : Nat} (h : B ≤ A) : (0 : Int) ≤ sgn (A : Int) (B : Int) := by
  rcases sgn_ways (A : Int) (B : Int) with ⟨a, e⟩ | ⟨a, e⟩ | ⟨a, e⟩ <;> omega
theorem sgnC_lt {A B : Nat} (h : ¬ B ≤ A) : ¬ (0 : Int) ≤ sgn (A : Int) (B : Int) := by
  rcases sgn_ways (A : Int) (B : Int) with ⟨a, e⟩ | ⟨a, e⟩ | ⟨a, e⟩ <;> omega
theorem dec_mo {n : Int} (h : decN n) : (fD n).l + 3 * 2 ^ (fD n).w - 1 = (fD n).m := rfl
theorem ok_m {f : DF} (h : f.ok) : -10000 ≤ f.m ∧ f.m ≤ 10000 ∧ -10000 ≤ f.l ∧ f.l ≤ 10000 ∧ f.l ≤ f.m ∧ 2 ≤ f.j ∧ f.j ≤ 11 := by
  unfold DF.m
  rcases h with ⟨h1, h2, h3, h4⟩ | ⟨h1, h2, h3, h4⟩ | ⟨h1, h2, h3, h4⟩ <;> rw [h2, h3, h4] <;> decide
theorem NT.blK {K V : Nat} {v : Value} {w : World} (h : NT K V v w) : bl V ≤ 64 * K := by
  obtain ⟨g, k, cap, z, h1, h2, h3, h4, h5⟩ := h
  exact (size_bl (m := K) h3.2.2.1 h4).1 (Nat.le_trans (sizeL_le z k) h2)
theorem NT.fitU {K K' V : Nat} {v : Value} {w : World} (h : NT K V v w) (hb : bl V ≤ 64 * K') : NT K' V v w := by
  obtain ⟨g, k, cap, z, h1, h2, h3, h4, h5⟩ := h
  exact ⟨g, k, cap, z, h1, by have := (size_bl (m := K') h3.2.2.1 h4).2 hb; omega, h3, h4, h5⟩
theorem rless_T {A : Nat} {v v' : Value} {w : World} (h : NT 4000 A v w) (hb : bl A ≤ 6400) (h' : NV 1 1 v' w) (hv : 1 ≤ A) :
    Calls Tryd.prog 56 #[v, v'] w fun r w' => ∃ v, r = .returned v ∧ NV 4000 (A - 1) v w' ∧ Below w.heap.size w w' :=
  (rless_nt (K := 100) (by decide) (by decide) (h.fitU (K' := 100) hb).nv h' hv).mono fun r w' ⟨u, e1, e2, e3⟩ => ⟨u, e1, e2.nv.more (by decide), e3⟩
theorem rround15 {n : Int} (h : decN n) {d : Int} (hkn : knB d) (s : Bool) {N D : Nat} {vn vd : Value} {w : World} {E : Int} (exp want : Int) (hN0 : 0 < N) (hD0 : 0 < D) (hn : NT 400 N vn w) (hd : NT 400 D vd w)
    (hE : TnE (N * 10 ^ (clT exp).toNat) (D * 10 ^ (-(clT exp)).toNat) E) :
    Calls Tryd.prog 30 #[.int .i64 n, .int .i64 d, .bool s, vn, vd, .int .i64 exp, .int .i64 want] w fun r w' => r = .returned (.tuple #[(dkD (fD n) d s (N * 10 ^ (clT exp).toNat) (D * 10 ^ (-(clT exp)).toNat) E want).v, .int .i64 (dkF (fD n) d s (N * 10 ^ (clT exp).toNat) (D * 10 ^ (-(clT exp)).toNat) E)]) ∧ Below w.heap.size w w' := by
  have ho := fD_ok n
  obtain ⟨m0, m1, l0, l1, lm, j0, j1⟩ := ok_m ho
  have hc := clT_bd exp
  have bN : bl N ≤ 25600 := NT.blK hn
  have bD : bl D ≤ 25600 := NT.blK hd
  have b1 := bl_mul N (10 ^ (clT exp).toNat)
  have b2 := ten_bl (clT exp).toNat
  have b3 := bl_mul D (10 ^ (-(clT exp)).toNat)
  have b4 := ten_bl (-(clT exp)).toNat
  have cS1 : ∀ W, Below w.heap.size w W → Calls Tryd.prog 13 #[vn, vd, .int .u64 10, .int .i64 (clT exp)] W fun r w' => ∃ a b, r = .returned (.tuple #[a, b]) ∧ NT 7000 (N * 10 ^ (clT exp).toNat) a w' ∧ NT 7000 (D * 10 ^ (-(clT exp)).toNat) b w' ∧ Below W.heap.size W w' := fun W hW => rscaleT (clT exp) (by omega) ((hn.next hW).more (by decide)) ((hd.next hW).more (by decide)) (by omega) (by omega)
  have hN1 : 0 < N * 10 ^ (clT exp).toNat := Nat.mul_pos hN0 (ten_pos _)
  have hD1 : 0 < D * 10 ^ (-(clT exp)).toNat := Nat.mul_pos hD0 (ten_pos _)
  have bN1 : bl (N * 10 ^ (clT exp).toNat) ≤ 106000 := by omega
  have bD1 : bl (D * 10 ^ (-(clT exp)).toNat) ≤ 106000 := by omega
  obtain ⟨gv, kv, cv, rfl, hkv, hzv⟩ := hn.zero
  have hkv0 : (0 : Int) < (kv : Int) := by
    have : kv ≠ 0 := fun e => by have := hzv.1 e; omega
    omega
  have hm1 : max exp (-20000) = max exp (-20000) := rfl
  have hm2 : min (max exp (-20000)) 20000 = clT exp := rfl
  generalize N * 10 ^ (clT exp).toNat = N1 at *
  generalize D * 10 ^ (-(clT exp)).toNat = D1 at *
  have u := tnG_up hD1 hE.1
  have l := tnG_dn hN1 hE.2
  have cT : ∀ W a b, NT 7000 N1 a W → NT 7000 D1 b W → Calls Tryd.prog 51 #[a, b] W fun r w' => r = .returned (.int .i64 E) ∧ Below W.heap.size W w' := fun W a b ha hb => rtensT hN1 hD1 hE (by omega) (by omega) ha hb
  have hq : max (fD n).l (E - (3 * ((fD n).j : Int) + 1) + 1) = dkQ (fD n) E := by unfold dkQ; omega
  have hq0 : -40000 ≤ dkQ (fD n) E ∧ dkQ (fD n) E ≤ 40000 := by unfold dkQ; omega
  have cS2 : ∀ W a b, NT 7000 N1 a W → NT 7000 D1 b W → Calls Tryd.prog 13 #[a, b, .int .u64 10, .int .i64 (-(dkQ (fD n) E))] W fun r w' => ∃ a' b', r = .returned (.tuple #[a', b']) ∧ NT 7000 (dkA N1 (dkQ (fD n) E)) a' w' ∧ NT 7000 (dkZ D1 (dkQ (fD n) E)) b' w' ∧ Below W.heap.size W w' := fun W a b ha hb => by
    have := rscaleT (-(dkQ (fD n) E)) (by omega) ha hb (by omega) (by omega)
    rw [Int.neg_neg] at this
    exact this
  have cP : ∀ W, Calls Tryd.prog 53 #[.int .u64 10, .int .i64 (3 * ((fD n).j : Int) + 1)] W fun r w' => ∃ v, r = .returned v ∧ NT 4000 (10 ^ (3 * (fD n).j + 1)) v w' ∧ Below W.heap.size W w' := fun W => by
    have := rpowT (3 * (fD n).j + 1) W (by omega)
    rw [show ((3 * (fD n).j + 1 : Nat) : Int) = 3 * ((fD n).j : Int) + 1 by omega] at this
    exact this
  have cP1 : ∀ W, Calls Tryd.prog 53 #[.int .u64 10, .int .i64 (3 * ((fD n).j : Int) + 1 - 1)] W fun r w' => ∃ v, r = .returned v ∧ NT 4000 (10 ^ (3 * (fD n).j)) v w' ∧ Below W.heap.size W w' := fun W => by
    have := rpowT (3 * (fD n).j) W (by omega)
    rw [show ((3 * (fD n).j : Nat) : Int) = 3 * ((fD n).j : Int) + 1 - 1 by omega] at this
    exact this
  have hZ0 : dkZ D1 (dkQ (fD n) E) ≠ 0 := by have := dkZ_pos hD1 (dkQ (fD n) E); omega
  have hC0 : dkC0 (fD n) d s N1 D1 E = whC d s (dkA N1 (dkQ (fD n) E)) (dkZ D1 (dkQ (fD n) E)) := rfl
  have cW : ∀ W a b, NT 7000 (dkA N1 (dkQ (fD n) E)) a W → NT 7000 (dkZ D1 (dkQ (fD n) E)) b W → Calls Tryd.prog 52 #[.int .i64 d, .bool s, a, b] W fun r w' => ∃ v, r = .returned (.tuple #[v, .bool (dkX (fD n) N1 D1 E)]) ∧ NV 41002 (dkC0 (fD n) d s N1 D1 E) v w' ∧ Below W.heap.size W w' := fun W a b ha hb => whole_nt d s hkn (by decide) ha hb hZ0
  have cC : ∀ W v v', NV 41002 (dkC0 (fD n) d s N1 D1 E) v W → NT 4000 (10 ^ (3 * (fD n).j + 1)) v' W → Calls Tryd.prog 15 #[v, v'] W fun r w' => r = .returned (.int .i64 (sgn ((dkC0 (fD n) d s N1 D1 E : Nat) : Int) ((10 ^ (3 * (fD n).j + 1) : Nat) : Int))) ∧ W = w' := fun W v v' h1 h2 => rcmp_nv (by decide) (by decide) h1 h2.nv
  have cO := fun W => rof_dec h W
  rw [dec_mo h] at cO
  have hlim : (10 : Nat) ^ (3 * (fD n).j + 1) ≤ 10 ^ 34 := Nat.pow_le_pow_right (by decide) (by omega)
  have hML : ∀ W v v', NT 4000 (10 ^ (3 * (fD n).j + 1)) v W → NV 1 1 v' W → Calls Tryd.prog 56 #[v, v'] W fun r w' => ∃ v, r = .returned v ∧ NV 4000 (10 ^ (3 * (fD n).j + 1) - 1) v w' ∧ Below W.heap.size W w' := fun W v v' h1 h2 => rless_T h1 (Nat.le_trans (ten_bl _) (by omega)) h2 (ten_pos _)
  have hlow : (fD n).l + (3 * ((fD n).j : Int) + 1) - 1 = (fD n).l + 3 * ((fD n).j : Int) := by omega
  unfold dkD dkF
  by_cases hcar : 10 ^ (3 * (fD n).j + 1) ≤ dkC0 (fD n) d s N1 D1 E
  · have hsv := sgnC_ge hcar
    have eE : dkE (fD n) d s N1 D1 E = dkQ (fD n) E + 1 := if_pos hcar
    have eC : dkC (fD n) d s N1 D1 E = 10 ^ (3 * (fD n).j) := if_pos hcar
    have hX : dkX (fD n) N1 D1 E = false := by
      cases hx : dkX (fD n) N1 D1 E
      · rfl
      · exfalso
        have h0 : dkA N1 (dkQ (fD n) E) % dkZ D1 (dkQ (fD n) E) = 0 := of_decide_eq_true hx
        have h1 := dk_lt (f := fD n) hE
        have h2 : dkA N1 (dkQ (fD n) E) / dkZ D1 (dkQ (fD n) E) < 10 ^ (3 * (fD n).j + 1) := by rw [Nat.div_lt_iff_lt_mul (Nat.pos_of_ne_zero hZ0), Nat.mul_comm]; exact h1
        rw [hC0] at hcar
        unfold whC faB at hcar
        rw [h0, if_pos rfl] at hcar
        simp only [Bool.false_eq_true, if_false] at hcar
        omega
    rw [eE, eC, hX]
    by_cases hmo : (fD n).m < dkQ (fD n) E + 1
    · rw [if_pos hmo, if_pos hmo]
      have cF := fun W => rfar_kn d s W hkn
      cases hin : inB d s
      · rw [hin] at cF
        exact rnd_cm n _ _ _ _ _ _ _ _ d s gv kv cv vd exp want _ _ E (dkQ (fD n) E) N1 D1 _ _ (dkC0 (fD n) d s N1 D1 E) _ _ w (by omega) (by omega) l0 l1 m0 m1 cO hkv0 hm1 hm2 (by omega) (by omega) hq (by omega) (by omega) cS1 cT cS2 cP cC (dkX (fD n) N1 D1 E) _ _ 0 0 0 cW hsv cP1 hmo cF hML (fun W v hv => bits_nv hv)
      · rw [hin] at cF
        have := rnd_ci n _ _ _ _ _ _ _ _ d s gv kv cv vd exp want _ _ E (dkQ (fD n) E) N1 D1 _ _ (dkC0 (fD n) d s N1 D1 E) _ _ w (by omega) (by omega) l0 l1 m0 m1 cO hkv0 hm1 hm2 (by omega) (by omega) hq (by omega) (by omega) cS1 cT cS2 cP cC (dkX (fD n) N1 D1 E) _ 0 0 0 0 cW hsv cP1 hmo cF
        simp only [if_true]
        rw [show (Dat.mk 2 s false 0 0).v = .agg #[.int .i64 2, .bool s, .bool false, .int .i64 0, .int .u64 0, .int .u64 0, .int .u64 0, .int .u64 0] by unfold Dat.v DV; simp only [W4_zero]]
        exact this
    · rw [if_neg hmo, if_neg hmo]
      simp only [Bool.false_eq_true, if_false]
      rw [hX] at cW
      by_cases hl : E < (fD n).l + 3 * ((fD n).j : Int)
      · rw [if_pos hl]
        exact rnd_cs n _ _ _ _ _ _ _ _ d s gv kv cv vd exp want _ _ E (dkQ (fD n) E) N1 D1 _ _ (dkC0 (fD n) d s N1 D1 E) _ _ w (by omega) (by omega) l0 l1 m0 m1 cO hkv0 hm1 hm2 (by omega) (by omega) hq (by omega) (by omega) cS1 cT cS2 cP cC false _ 0 0 0 0 cW hsv cP1 hmo (fun W v hv => bits_nv hv.nv) (by omega)
      · rw [if_neg hl]
        exact rnd_cr n _ _ _ _ _ _ _ _ d s gv kv cv vd exp want _ _ E (dkQ (fD n) E) N1 D1 _ _ (dkC0 (fD n) d s N1 D1 E) _ _ w (by omega) (by omega) l0 l1 m0 m1 cO hkv0 hm1 hm2 (by omega) (by omega) hq (by omega) (by omega) cS1 cT cS2 cP cC false _ 0 0 0 0 cW hsv cP1 hmo (fun W v hv => bits_nv hv.nv) (by omega)
  · have hsv := sgnC_lt hcar
    have eE : dkE (fD n) d s N1 D1 E = dkQ (fD n) E := if_neg hcar
    have eC : dkC (fD n) d s N1 D1 E = dkC0 (fD n) d s N1 D1 E := if_neg hcar
    rw [eE, eC]
    by_cases hmo : (fD n).m < dkQ (fD n) E
    · rw [if_pos hmo, if_pos hmo]
      have cF := fun W => rfar_kn d s W hkn
      cases hin : inB d s
      · rw [hin] at cF
        exact rnd_nm n _ _ _ _ _ _ _ _ d s gv kv cv vd exp want _ _ E (dkQ (fD n) E) N1 D1 _ _ (dkC0 (fD n) d s N1 D1 E) _ _ w (by omega) (by omega) l0 l1 m0 m1 cO hkv0 hm1 hm2 (by omega) (by omega) hq (by omega) (by omega) cS1 cT cS2 cP cC (dkX (fD n) N1 D1 E) 0 _ 0 0 0 cW hsv hmo cF hML (fun W v hv => bits_nv hv)
      · rw [hin] at cF
        have := rnd_ni n _ _ _ _ _ _ _ _ d s gv kv cv vd exp want _ _ E (dkQ (fD n) E) N1 D1 _ _ (dkC0 (fD n) d s N1 D1 E) _ _ w (by omega) (by omega) l0 l1 m0 m1 cO hkv0 hm1 hm2 (by omega) (by omega) hq (by omega) (by omega) cS1 cT cS2 cP cC (dkX (fD n) N1 D1 E) 0 0 0 0 0 cW hsv hmo cF
        simp only [if_true]
        rw [show (Dat.mk 2 s false 0 0).v = .agg #[.int .i64 2, .bool s, .bool false, .int .i64 0, .int .u64 0, .int .u64 0, .int .u64 0, .int .u64 0] by unfold Dat.v DV; simp only [W4_zero]]
        exact this
    · rw [if_neg hmo, if_neg hmo]
      cases hX : dkX (fD n) N1 D1 E
      · simp only [Bool.false_eq_true, if_false]
        rw [hX] at cW
        by_cases hl : E < (fD n).l + 3 * ((fD n).j : Int)
        · rw [if_pos hl]
          exact rnd_ns n _ _ _ _ _ _ _ _ d s gv kv cv vd exp want _ _ E (dkQ (fD n) E) N1 D1 _ _ (dkC0 (fD n) d s N1 D1 E) _ _ w (by omega) (by omega) l0 l1 m0 m1 cO hkv0 hm1 hm2 (by omega) (by omega) hq (by omega) (by omega) cS1 cT cS2 cP cC false 0 0 0 0 0 cW hsv hmo (fun W v hv => bits_nv hv) (by omega)
        · rw [if_neg hl]
          exact rnd_nr n _ _ _ _ _ _ _ _ d s gv kv cv vd exp want _ _ E (dkQ (fD n) E) N1 D1 _ _ (dkC0 (fD n) d s N1 D1 E) _ _ w (by omega) (by omega) l0 l1 m0 m1 cO hkv0 hm1 hm2 (by omega) (by omega) hq (by omega) (by omega) cS1 cT cS2 cP cC false 0 0 0 0 0 cW hsv hmo (fun W v hv => bits_nv hv) (by omega)
      · simp only [if_true]
        have h0 : dkA N1 (dkQ (fD n) E) % dkZ D1 (dkQ (fD n) E) = 0 := of_decide_eq_true hX
        have eX : dkC0 (fD n) d s N1 D1 E = dkA N1 (dkQ (fD n) E) / dkZ D1 (dkQ (fD n) E) := by
          rw [hC0]
          unfold whC faB
          rw [h0, if_pos rfl]
          simp
        have cWx : ∀ W a b, NT 7000 (dkA N1 (dkQ (fD n) E)) a W → NT 7000 (dkZ D1 (dkQ (fD n) E)) b W → Calls Tryd.prog 52 #[.int .i64 d, .bool s, a, b] W fun r w' => ∃ v, r = .returned (.tuple #[v, .bool true]) ∧ NT 41000 (dkC0 (fD n) d s N1 D1 E) v w' ∧ Below W.heap.size W w' := fun W a b ha hb => by
          rw [eX]
          exact whole_exact d s (by decide) ha hb hZ0 h0
        have hbl : bl (dkC0 (fD n) d s N1 D1 E) ≤ 1000 := by
          refine Nat.le_trans (bl_le.2 (Nat.lt_of_lt_of_le (Nat.lt_of_not_le hcar) (Nat.le_trans hlim ?_))) (show 200 ≤ 1000 by decide)
          decide
        have hMM : dkM (fD n) d s N1 D1 E want = mbr (fD n).m want ((fD n).m - dkQ (fD n) E).toNat (dkC0 (fD n) d s N1 D1 E) (dkQ (fD n) E) := by unfold dkM; rw [eE, eC]
        rw [hMM]
        exact rnd_nx n _ _ _ _ _ _ _ _ d s gv kv cv vd exp want _ _ E (dkQ (fD n) E) N1 D1 _ _ (dkC0 (fD n) d s N1 D1 E) _ _ w (by omega) (by omega) l0 l1 m0 m1 cO hkv0 hm1 hm2 (by omega) (by omega) hq (by omega) (by omega) cS1 cT cS2 cP cC true 0 0 _ _ 0 cWx hsv hmo (fun W v hv => rmember n _ _ _ _ _ _ _ _ _ _ want v W (by omega) (by omega) (by omega) hbl hv) (fun W v hv => bits_nv hv.nv)
end Go.Proofs.YtmommdhnogogdaaDoor
