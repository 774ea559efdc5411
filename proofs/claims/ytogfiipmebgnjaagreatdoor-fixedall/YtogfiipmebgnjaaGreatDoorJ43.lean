/-
  Texts that the proof leans on, joined: Nf, Fz.
-/
import Derived.Test.YtogfiipmebgnjaaGreatDoorJ42
import Derived.Test.YtogfiipmebgnjaaGreatDoorJ40
import Derived.Test.YtogfiipmebgnjaaGreatDoorJ36
import Derived.Test.YtogfiipmebgnjaaGreatDoorJ1
set_option linter.unusedVariables false
set_option linter.unusedSectionVars false
set_option linter.unusedSimpArgs false
set_option maxRecDepth 20000
namespace Go.Proofs.YtogfiipmebgnjaaGreatDoor
open Go.RowKit

/-- how many digits stand among the first i signs -/
def cnD (l : List UInt8) (i : Nat) : Int := (((l.take i).filter dg).length : Int)
theorem cnD_zero (l : List UInt8) : cnD l 0 = 0 := rfl
theorem cnD_bd (l : List UInt8) (i : Nat) : 0 ≤ cnD l i ∧ cnD l i ≤ l.length := by
  unfold cnD
  have h1 := List.length_filter_le dg (l.take i)
  have h2 : (l.take i).length ≤ l.length := by rw [List.length_take]; omega
  omega
theorem cnD_next {l : List UInt8} {i : Nat} (h : i < l.length) : cnD l (i + 1) = cnD l i + if dg (l[i]'h) then 1 else 0 := by
  unfold cnD
  rw [List.take_succ_eq_append_getElem h, List.filter_append, List.length_append]
  by_cases hd : dg (l[i]'h)
  · rw [if_pos hd, List.filter_cons_of_pos hd]
    simp
  · rw [if_neg hd, List.filter_cons_of_neg hd]
    simp
/-- what stands ahead of the e -/
def prT (s : Bool) (c : UInt8) (r : List UInt8) : List UInt8 := sgL s ++ (c :: if 1 < (c :: r).length then 46 :: r else [])
theorem prT_text (s : Bool) (c : UInt8) (r : List UInt8) (e : Int) : sgL s ++ unT (c :: r) e = prT s c r ++ (101 :: Lib.itoa e) := by
  unfold unT prT
  simp only [List.take_succ_cons, List.take_zero, List.drop_succ_cons, List.drop_zero]
  split <;> simp
theorem prT_digits (s : Bool) {c : UInt8} {r : List UInt8} (hc : dg c = true) (hr : r.all dg = true) : cnD (prT s c r) (prT s c r).length = r.length + 1 := by
  have hf : r.filter dg = r := List.filter_eq_self.2 fun x hx => List.all_eq_true.1 hr x hx
  unfold cnD prT
  rw [List.take_length, List.filter_append]
  have hs : (sgL s).filter dg = [] := by cases s <;> decide
  rw [hs, List.nil_append, List.filter_cons_of_pos hc]
  split
  · rw [List.filter_cons_of_neg (by decide), hf]
    simp
  · have : r = [] := by
      cases r with
      | nil => rfl
      | cons y ys => rename_i h; exact absurd (show 1 < (c :: y :: ys).length by simp) h
    subst this
    simp
theorem prT_mem {s : Bool} {c : UInt8} {r : List UInt8} (hc : dg c = true) (hr : r.all dg = true) {y : UInt8} (h : y ∈ prT s c r) : dg y = true ∨ (y.toNat : Int) < 48 := by
  unfold prT at h
  rcases List.mem_append.1 h with h | h
  · right
    cases s
    · cases h
    · have : y = 45 := by simpa [sgL] using h
      subst this
      decide
  · rcases List.mem_cons.1 h with rfl | h
    · exact Or.inl hc
    · split at h
      · rcases List.mem_cons.1 h with rfl | h
        · right; decide
        · exact Or.inl (List.all_eq_true.1 hr y h)
      · cases h
theorem itoa_exp (e : Int) (h : -1000000000 ≤ e ∧ e ≤ 1000000000) (hl : (Lib.itoa e).length ≤ 100) (w : World) : Calls Tryz.prog 14 #[.string (B (Lib.itoa e))] w fun r w' => r = .returned (.tuple #[.int .i64 e, .bool true]) ∧ Below w.heap.size w w' := by
  obtain ⟨x1, x2, _, _, _⟩ := ex_any e h
  have hi : isd (sgR (Lib.itoa e)) = true := by
    unfold exB at x1
    simp only [Bool.and_eq_true] at x1
    exact x1.2
  have hx : exS (Lib.itoa e) = e := by
    have x2' : (if exB (101 :: Lib.itoa e) = true then exS (Lib.itoa e) else 0) = e := x2
    rw [if_pos x1] at x2'
    exact x2'
  have := rexp_any (Lib.itoa e) w (by omega)
  rw [if_pos hi, hx, hi] at this
  exact this
theorem IDX_of {l : List UInt8} {i : Nat} (h : i < l.length) : IDX (B l) i (((l[i]'h).toNat : Nat) : Int) := by
  intro h'
  rw [by_lt h']
  unfold by_
  rw [dif_pos h]
theorem IDX_get {l : List UInt8} {i : Nat} {y : UInt8} (h : l[i]? = some y) : IDX (B l) i ((y.toNat : Nat) : Int) := by
  obtain ⟨hi, e⟩ := List.getElem?_eq_some_iff.1 h
  have := IDX_of hi
  rw [e] at this
  exact this
section
variable {n d : Int} {V m : Nat} {w : World} (hT : Tab w) (hT10 : Tb10 w) (hV : V < 2 ^ 256) (hd : knB d) (hg : goodN n V) (hc : (unD n V).c = 1) (hk : (unD n V).k ≠ 0) (hm1 : 1 ≤ m) (hm8 : m ≤ 800)
include hT hT10 hV hd hg hc hk hm1 hm8
theorem near_fin : Calls Tryz.prog 5 #[.int .i64 n, .int .i64 d, .int .i64 (m : Int), A4 V] w fun r w' => r = .returned (.bool true) ∧ Below w.heap.size w w' := by
  have c8 := fun W (hW : Below w.heap.size w W) => awake10 W (hT.go hW) (hT10.next hW)
  obtain ⟨hb, hkb, hx1, hx2, hD⟩ := fin_facts ⟨hg, hc, hk⟩
  have c6 := fun W => runpack_any n V W hV
  rw [show unE n V = 0 from if_pos hg] at c6
  have eD : (unD n V).v = DV 1 (unD n V).s (unD n V).g (unD n V).x (unD n V).k := by rw [← hc]
  rw [eD] at c6
  have c13 := fun W => fin9_y n V (unD n V).s (unD n V).g (unD n V).x (unD n V).k W hb c6 hkb hk
  have c9 := fun W hW hW10 => fwrite_k hV hd hg W hW hm1 hm8 hW10 hc hk rfl
  obtain ⟨t0, t1⟩ := cu_top hk (unD n V).x
  have hfar := tn_far hkb hx2 t0
  have hlow := tn_low hk hx1 t1
  generalize (unD n V).s = s at *
  generalize (unD n V).g = g at *
  generalize (unD n V).x = x at *
  generalize (unD n V).k = k at *
  obtain ⟨f1, f2⟩ := fx_digits d s t0 t1 hm1 (a := cuE k x - m + 1) rfl
  obtain ⟨y1, y2, y3⟩ := fx_text hm1 f1 f2 (cuE k x - m + 1)
  have hCd : fxC d s k x (cuE k x) m = whC d s (fxA k x (cuE k x - m + 1)) (fxB x (cuE k x - m + 1)) := rfl
  have hI : fxI k x (cuE k x) m = !decide (fxA k x (cuE k x - m + 1) % fxB x (cuE k x - m + 1) = 0) := rfl
  have hTx : fxT d s k x (cuE k x) m = sgL s ++ unT (fxD m (fxC d s k x (cuE k x) m)) (fxX m (fxC d s k x (cuE k x) m) (cuE k x - m + 1) + m - 1) := rfl
  rw [← hCd] at y1 y2 y3
  rw [hTx, hI] at c9
  generalize fxC d s k x (cuE k x) m = Cc at *
  generalize cuE k x = E at *
  generalize hDd : fxD m Cc = Dd at *
  generalize hbb : fxX m Cc (E - m + 1) = b at *
  have hbr : b = E - m + 1 ∨ b = E - m + 1 + 1 := by
    rcases y3 with ⟨_, _, h⟩ | ⟨_, _, h⟩ <;> omega
  have hb2 : (b = E - m + 1 ∧ dV Dd = Cc) ∨ (b = E - m + 1 + 1 ∧ dV Dd * 10 = Cc) := by
    rcases y3 with ⟨_, h1, h2⟩ | ⟨h0, h1, h2⟩
    · exact Or.inl ⟨h2, h1⟩
    · refine Or.inr ⟨h2, ?_⟩
      rw [h1, h0, ← Nat.pow_succ]
      congr 1
      omega
  obtain ⟨v1, v2, v3⟩ := near_val hCd hb2
  clear hDd hbb y3 hb2 hTx hI
  obtain ⟨c, r, rfl⟩ : ∃ c r, Dd = c :: r := by
    cases Dd with
    | nil => exact absurd y2 (by simp; omega)
    | cons y ys => exact ⟨y, ys, rfl⟩
  have hr1 : r.length + 1 = m := by simpa using y2
  have hall := gdD_all y1
  have hc0 : (c.toNat : Int) ≠ 48 := by
    rcases y1 with h | ⟨_, h⟩
    · cases h
    · rw [by_zero] at h; exact h
  have hcd : dg c = true := by simpa using (List.all_eq_true.1 hall) c (by simp)
  have hrd : r.all dg = true := List.all_eq_true.2 fun y hy => (List.all_eq_true.1 hall) y (by simp [hy])
  have hbL : -6000 ≤ b ∧ b ≤ 5200 := by omega
  have hpl : -100000 ≤ b + m - 1 ∧ b + m - 1 ≤ 100000 := by omega
  have hcut := un_cut s hcd hc0 hrd (show r.length ≤ 3950 by omega) hpl
  have hit := itoa_short hpl
  have hpre := prT_text s c r (b + m - 1)
  have hlp : (prT s c r).length ≤ r.length + 3 ∧ 1 ≤ (prT s c r).length := by
    unfold prT
    have hs1 : (sgL s).length ≤ 1 := by cases s <;> decide
    rw [List.length_append, List.length_cons]
    split
    · simp; omega
    · simp; omega
  have hlT : (sgL s ++ unT (c :: r) (b + m - 1)).length = (prT s c r).length + 1 + (Lib.itoa (b + m - 1)).length := by rw [hpre, List.length_append, List.length_cons]; omega
  have hby : ∀ i, i < (prT s c r).length → ∃ y, IDX (B (sgL s ++ unT (c :: r) (b + m - 1))) i y ∧ y ≠ 101 ∧ ((48 ≤ y ∧ y ≤ 57 ∧ cnD (prT s c r) (i + 1) = cnD (prT s c r) i + 1) ∨ (y < 48 ∧ cnD (prT s c r) (i + 1) = cnD (prT s c r) i)) := by
    intro i hi
    have hi2 : i < (sgL s ++ unT (c :: r) (b + m - 1)).length := by omega
    have eg : (sgL s ++ unT (c :: r) (b + m - 1))[i]'hi2 = (prT s c r)[i]'hi := by
      simp only [hpre]
      exact List.getElem_append_left hi
    refine ⟨_, IDX_of hi2, ?_⟩
    rw [eg]
    have hmem : (prT s c r)[i]'hi ∈ prT s c r := List.getElem_mem hi
    have hn := cnD_next hi
    by_cases hdg : dg ((prT s c r)[i]'hi) = true
    · have := dg_nat hdg
      rw [if_pos hdg] at hn
      exact ⟨by omega, Or.inl ⟨this.1, this.2, hn⟩⟩
    · rw [if_neg hdg, Int.add_zero] at hn
      have hlt := (prT_mem hcd hrd hmem).resolve_left hdg
      exact ⟨by omega, Or.inr ⟨hlt, hn⟩⟩
  have hbe : IDX (B (sgL s ++ unT (c :: r) (b + m - 1))) (prT s c r).length 101 := by
    have hi2 : (prT s c r).length < (sgL s ++ unT (c :: r) (b + m - 1)).length := by omega
    have eg : (sgL s ++ unT (c :: r) (b + m - 1))[(prT s c r).length]'hi2 = 101 := by
      simp only [hpre]
      rw [List.getElem_append_right (Nat.le_refl _)]
      simp
    have := IDX_of hi2
    rw [eg] at this
    exact this
  obtain ⟨c0, hb0, hs0⟩ : ∃ c0, IDX (B (sgL s ++ unT (c :: r) (b + m - 1))) 0 c0 ∧ (c0 == 45) = s := by
    rw [hpre]
    cases s
    · have hcn := dg_nat hcd
      refine ⟨_, IDX_get (y := c) (by simp [prT, sgL]), ?_⟩
      rw [beq_eq_false_iff_ne]
      omega
    · exact ⟨_, IDX_get (y := 45) (by simp [prT, sgL]), rfl⟩
  have hIx : (B (sgL s ++ unT (c :: r) (b + m - 1))).extract ((prT s c r).length + 1) ((prT s c r).length + 1 + (Lib.itoa (b + m - 1)).length) = B (Lib.itoa (b + m - 1)) := by
    rw [show (prT s c r).length + 1 + (Lib.itoa (b + m - 1)).length = (B (sgL s ++ unT (c :: r) (b + m - 1))).size by rw [B_size, hlT], B_drop, hpre]
    congr 1
    rw [List.drop_append]
    simp
  have hcnp : cnD (prT s c r) (prT s c r).length = (m : Int) := by rw [prT_digits s hcd hrd]; omega
  have hcnb : ∀ i, i ≤ (prT s c r).length → 0 ≤ cnD (prT s c r) i ∧ cnD (prT s c r) i ≤ 4000 := fun i _ => by
    have := cnD_bd (prT s c r) i
    omega
  have hD9 : (c :: r).length ≤ 900 := by rw [List.length_cons]; omega
  have hDa : (c :: r).all dg = true := hall
  have c15 := fun W => frac10_v (l := sgL s ++ unT (c :: r) (b + m - 1)) (D := c :: r) (s := s) (x := b) W (by rw [hcut]; congr 2; omega) (by omega) hDa hD9 (by omega)
  have c16 := fun W => rvalue_v 1 s g x k W hkb ⟨hx1, hx2⟩
  have ten_b : ∀ j : Nat, bl (10 ^ j) ≤ 4 * j + 1 := fun j => bl_le.2 (by
    have a1 : 10 ^ j ≤ (2 ^ 4) ^ j := Nat.pow_le_pow_left (by decide) _
    rw [← Nat.pow_mul] at a1
    exact Nat.lt_of_le_of_lt a1 (Nat.pow_lt_pow_succ (by decide)))
  have ct : ∀ {K X Y : Nat}, K ≤ 4000 → ∀ W u v, NT K X u W → NT 900 Y v W → Calls Tryz.prog 17 #[u, v] W fun r w' => ∃ a, r = .returned a ∧ NT (K + 901) (X * Y) a w' ∧ Below W.heap.size W w' := fun hK W u v hu hv => rtimes_nt (by omega) (by decide) hu.nv hv.nv
  have ct1 : ∀ (X Y : Nat) W u v, NT 900 X u W → NT 900 Y v W → Calls Tryz.prog 17 #[u, v] W fun r w' => ∃ a, r = .returned a ∧ NT 2000 (X * Y) a w' ∧ Below W.heap.size W w' := fun X Y W u v hu hv => (ct (by decide) W u v hu hv).mono fun r w' ⟨a, e1, e2, e3⟩ => ⟨a, e1, e2.more (by decide), e3⟩
  have cs : ∀ W u v, NT 2000 (10 ^ (-b).toNat * 2 ^ (-x).toNat) u W → NT 2000 1 v W → Calls Tryz.prog 20 #[u, v, .int .u64 10, .int .i64 (b + m - 1 - m + 1)] W fun r w' => ∃ a b', r = .returned (.tuple #[a, b']) ∧ NT 2000 (10 ^ (-b).toNat * 2 ^ (-x).toNat * 10 ^ b.toNat) a w' ∧ NT 2000 (10 ^ (-b).toNat) b' w' ∧ Below W.heap.size W w' := fun W u v hu hv => by
    have a1 := bl_mul (10 ^ (-b).toNat * 2 ^ (-x).toNat) (10 ^ b.toNat)
    have a2 := bl_mul (10 ^ (-b).toNat) (2 ^ (-x).toNat)
    have a3 := ten_b b.toNat
    have a4 := ten_b (-b).toNat
    have a5 := two_bl (-x).toNat
    have := rscale10z (K := 2000) b (by decide) (by omega) hu hv (by omega) (by rw [Nat.one_mul]; omega)
    rw [Nat.one_mul] at this
    rw [show b + m - 1 - m + 1 = b by omega]
    exact this
  have cc : ∀ (K K' X Y : Nat) (sg : Int), K < 100000 → K' < 100000 → sgn (X : Int) Y = sg → ∀ W u v, NT K X u W → NT K' Y v W → Calls Tryz.prog 18 #[u, v] W fun r w' => r = .returned (.int .i64 sg) ∧ W = w' := fun K K' X Y sg hK hK' hsg W u v hu hv => by
    have := rcmp_nv (by omega) (by omega) hu.nv hv.nv
    rw [hsg] at this
    exact this
  have ct4 : ∀ (X Y : Nat) W u v, NT 4000 X u W → NT 2000 Y v W → Calls Tryz.prog 17 #[u, v] W fun r w' => ∃ a, r = .returned a ∧ NT 9000 (X * Y) a w' ∧ Below W.heap.size W w' := fun X Y W u v hu hv => (rtimes_nt (by decide) (by decide) hu.nv hv.nv).mono fun r w' ⟨a, e1, e2, e3⟩ => ⟨a, e1, e2.more (by decide), e3⟩
  have cl : ∀ (X Y : Nat), Y ≤ X → ∀ W u v, NT 2000 X u W → NT 2000 Y v W → Calls Tryz.prog 19 #[u, v] W fun r w' => ∃ a, r = .returned a ∧ NT 4000 (X - Y) a w' ∧ Below W.heap.size W w' := fun X Y h W u v hu hv => rless_wide (by decide) (by decide) hu.nv hv.nv h
  have lt_sgn : ∀ {X Y : Nat}, X < Y → sgn (X : Int) Y = -1 := fun {X Y} h => by
    rcases sgn_ways (X : Int) (Y : Int) with ⟨a, e⟩ | ⟨a, e⟩ | ⟨a, e⟩
    · exact e
    · omega
    · omega
  have hmi : (1 : Int) ≤ m ∧ (m : Int) ≤ 800 := by omega
  rcases Nat.lt_trichotomy (dV (c :: r) * 10 ^ b.toNat * 2 ^ (-x).toNat) (k * 2 ^ x.toNat * 10 ^ (-b).toNat) with h | h | h
  · have hne : ¬ fxA k x (E - m + 1) % fxB x (E - m + 1) = 0 := fun e0 => by have := v1.2 e0; omega
    rw [decide_eq_false hne] at c9
    exact nr_l n d m V 1 s g x k w hT hT10 c8 _ true c13 c9 (prT s c r).length _ hlp.2 (by omega) (by omega) hlT (cnD (prT s c r)) (cnD_zero _) hcnp hcnb hby hbe c0 hb0 hs0 _ hIx (b + m - 1) (by omega) hmi (fun W => itoa_exp _ (by omega) hit W) _ _ _ _ _ _ _ _ c15 c16 (ct1 _ _) (ct1 _ _) (-1) (cc _ _ _ _ _ (by decide) (by decide) (lt_sgn h)) _ _ _ rfl (ct1 _ _) cs (ct4 _ _) (cc _ _ _ _ _ (by decide) (by decide) (lt_sgn v3)) rfl (fun W u v hu hv => rless_some (by decide) (by decide) hu.nv hv.nv) (cl _ _ (by omega))
  · rw [decide_eq_true (v1.1 h)] at c9
    exact nr_e n d m V 1 s g x k w hT hT10 c8 _ false c13 c9 (prT s c r).length _ hlp.2 (by omega) (by omega) hlT (cnD (prT s c r)) (cnD_zero _) hcnp hcnb hby hbe c0 hb0 hs0 _ hIx (b + m - 1) (by omega) hmi (fun W => itoa_exp _ (by omega) hit W) _ _ _ _ _ _ c15 c16 (ct1 _ _) (ct1 _ _) 0 (cc _ _ _ _ _ (by decide) (by decide) (by rw [h]; unfold sgn; simp)) rfl rfl
  · have hne : ¬ fxA k x (E - m + 1) % fxB x (E - m + 1) = 0 := fun e0 => by have := v1.2 e0; omega
    rw [decide_eq_false hne] at c9
    have gt_sgn : sgn ((dV (c :: r) * 10 ^ b.toNat * 2 ^ (-x).toNat : Nat) : Int) ((k * 2 ^ x.toNat * 10 ^ (-b).toNat : Nat) : Int) = 1 := by
      rcases sgn_ways ((dV (c :: r) * 10 ^ b.toNat * 2 ^ (-x).toNat : Nat) : Int) ((k * 2 ^ x.toNat * 10 ^ (-b).toNat : Nat) : Int) with ⟨a, e⟩ | ⟨a, e⟩ | ⟨a, e⟩
      · omega
      · omega
      · exact e
    exact nr_g n d m V 1 s g x k w hT hT10 c8 _ true c13 c9 (prT s c r).length _ hlp.2 (by omega) (by omega) hlT (cnD (prT s c r)) (cnD_zero _) hcnp hcnb hby hbe c0 hb0 hs0 _ hIx (b + m - 1) (by omega) hmi (fun W => itoa_exp _ (by omega) hit W) _ _ _ _ _ _ _ _ c15 c16 (ct1 _ _) (ct1 _ _) 1 (cc _ _ _ _ _ (by decide) (by decide) gt_sgn) _ _ _ rfl (ct1 _ _) cs (ct4 _ _) (cc _ _ _ _ _ (by decide) (by decide) (lt_sgn v2)) rfl (cl _ _ (by omega))
end
theorem fixedNear_any (n d cnt : Int) (V : Nat) (w : World) (hT : Tab w) (hT10 : Tb10 w) (hV : V < 2 ^ 256) : Calls Tryz.prog 5 #[.int .i64 n, .int .i64 d, .int .i64 cnt, A4 V] w fun r w' => r = .returned (.bool true) ∧ Below w.heap.size w w' := by
  have c8 := fun W (hW : Below w.heap.size w W) => awake10 W (hT.go hW) (hT10.next hW)
  by_cases hd : knB d
  · by_cases hg : goodN n V
    · by_cases hcnt : cnt < 1 ∨ 800 < cnt
      · have c9 := fun W hW (_ : Tb10 W) => fwrite_r hV hd hg W hW hcnt
        by_cases hf : finP n V
        · obtain ⟨hb, hkb, _, _, _⟩ := fin_facts hf
          have c6 := fun W => runpack_any n V W hV
          rw [show unE n V = 0 from if_pos hg] at c6
          have eD : (unD n V).v = DV 1 (unD n V).s (unD n V).g (unD n V).x (unD n V).k := by rw [← hf.2.1]
          rw [eD] at c6
          have c13 := fun W => fin9_y n V (unD n V).s (unD n V).g (unD n V).x (unD n V).k W hb c6 hkb hf.2.2
          exact nr_n n d cnt V 1 _ _ _ _ w hT hT10 c8 [] false true 3 (Or.inr (by decide)) c13 c9
        · obtain ⟨c, s, g, x, k, c13⟩ := fin9_n n V hV hf
          exact nr_n n d cnt V c s g x k w hT hT10 c8 [] false false 3 (Or.inl rfl) c13 c9
      · obtain ⟨m, rfl⟩ : ∃ m : Nat, cnt = (m : Int) := ⟨cnt.toNat, by omega⟩
        have hm1 : 1 ≤ m := by omega
        have hm8 : m ≤ 800 := by omega
        by_cases hc : (unD n V).c = 1
        · by_cases hk : (unD n V).k = 0
          · obtain ⟨c, s, g, x, k, c13⟩ := fin9_n n V hV fun h => h.2.2 hk
            exact nr_n n d m V c s g x k w hT hT10 c8 _ false false 0 (Or.inl rfl) c13 (fun W hW hW10 => fwrite_0 hV hd hg W hW hm1 hm8 hW10 hc hk)
          · exact near_fin hT hT10 hV hd hg hc hk hm1 hm8
        · obtain ⟨c, s, g, x, k, c13⟩ := fin9_n n V hV fun h => hc h.2.1
          exact nr_n n d m V c s g x k w hT hT10 c8 [] false false 6 (Or.inl rfl) c13 (fun W hW _ => fwrite_c hV hd hg W hW hm1 hm8 hc)
    · obtain ⟨c, s, g, x, k, c13⟩ := fin9_n n V hV fun h => hg h.1
      exact nr_n n d cnt V c s g x k w hT hT10 c8 [] false false 1 (Or.inl rfl) c13 (fun W hW _ => fwrite_e hV (Or.inr hg) W hW)
  · have c9 := fun W hW (_ : Tb10 W) => fwrite_e (n := n) (cnt := cnt) hV (Or.inl hd) W hW
    by_cases hf : finP n V
    · obtain ⟨hb, hkb, _, _, _⟩ := fin_facts hf
      have c6 := fun W => runpack_any n V W hV
      rw [show unE n V = 0 from if_pos hf.1] at c6
      have eD : (unD n V).v = DV 1 (unD n V).s (unD n V).g (unD n V).x (unD n V).k := by rw [← hf.2.1]
      rw [eD] at c6
      have c13 := fun W => fin9_y n V (unD n V).s (unD n V).g (unD n V).x (unD n V).k W hb c6 hkb hf.2.2
      exact nr_n n d cnt V 1 _ _ _ _ w hT hT10 c8 [] false true 1 (Or.inr (by decide)) c13 c9
    · obtain ⟨c, s, g, x, k, c13⟩ := fin9_n n V hV hf
      exact nr_n n d cnt V c s g x k w hT hT10 c8 [] false false 1 (Or.inl rfl) c13 c9
end Go.Proofs.YtogfiipmebgnjaaGreatDoor

namespace Go.Proofs.YtogfiipmebgnjaaGreatDoor
open Go.RowKit

attribute [local irreducible] W4
section
variable (n d : Int) (V : Nat) (mo : Int) (w : World) (hT : Tab w) (hT10 : Tb10 w)
  (c8 : ∀ W, Below w.heap.size w W → Calls Tryz.prog 8 #[] W fun r w' => r = .returned (.bool true) ∧ Below W.heap.size W w')
include hT hT10 c8
set_option maxHeartbeats 2000000 in
theorem fa_d (c21 : ∀ W, Calls Tryz.prog 21 #[.int .i64 d] W fun r w' => r = .returned (.bool false) ∧ W = w') :
    Calls Tryz.prog 6 #[.int .i64 n, .int .i64 d, A4 V, .int .u8 mo] w fun r w' => r = .returned (.bool true) ∧ Below w.heap.size w w' := by
  have hsm := cell_set_map
  unfold A4 at *
  go_enter Tryz.func6, Tryz.ntmps6
  go_wp2_with (first
    | (go_at_call 8; refine (c8 _ bgo).mono ?_; rintro r w1 ⟨rfl, hb1⟩; obtain ⟨hc1, hf1⟩ := bcell hb1; have hz1_0 : w.heap.size < w1.heap.size := lt_below hb1 ltg; have hl1_0 := Nat.le_of_lt hz1_0; have hA1 := bnext (w0 := w) bgo hb1; have hs1 := hA1.size; clear hb1)
    | (go_at_call 21; refine (c21 _).mono ?_; rintro r w2 ⟨rfl, rfl⟩))
  go_ret
  exact ⟨rfl, bgo⟩
variable (c21 : ∀ W, Calls Tryz.prog 21 #[.int .i64 d] W fun r w' => r = .returned (.bool true) ∧ W = w')
include c21
set_option maxHeartbeats 2000000 in
theorem fa_e (S : List UInt8) (at_ e : Int) (hE : (e != 0) = true ∨ 700 < S.length) (hS : S.length ≤ 100000) (c11 : ∀ W, Tab W → Calls Tryz.prog 11 #[.int .i64 n, A4 V] W fun r w' => r = .returned (.tuple #[.string (B S), .int .i64 at_, .int .i64 e]) ∧ Below W.heap.size W w') :
    Calls Tryz.prog 6 #[.int .i64 n, .int .i64 d, A4 V, .int .u8 mo] w fun r w' => r = .returned (.bool true) ∧ Below w.heap.size w w' := by
  have hsm := cell_set_map
  have zS : (B S).size = S.length := B_size S
  unfold A4 at *
  by_cases he : (e != 0) = true
  · clear hE
    go_enter Tryz.func6, Tryz.ntmps6
    go_wp2_with (first
      | (go_at_call 8; refine (c8 _ bgo).mono ?_; rintro r w1 ⟨rfl, hb1⟩; obtain ⟨hc1, hf1⟩ := bcell hb1; have hz1_0 : w.heap.size < w1.heap.size := lt_below hb1 ltg; have hl1_0 := Nat.le_of_lt hz1_0; have hA1 := bnext (w0 := w) bgo hb1; have hs1 := hA1.size; clear hb1)
      | (go_at_call 21; refine (c21 _).mono ?_; rintro r w2 ⟨rfl, rfl⟩)
      | (go_at_call 11; refine (c11 _ (hT.go bgo)).mono ?_; rintro r w3 ⟨rfl, hb3⟩; obtain ⟨hc3, hf3⟩ := bcell hb3; have hz3_0 : w.heap.size < w3.heap.size := lt_below hb3 ltg; have hl3_0 := Nat.le_of_lt hz3_0; have hA3 := bnext (w0 := w) bgo hb3; have hs3 := hA3.size; clear hb3))
    go_ret
    exact ⟨rfl, bgo⟩
  · have he' : (e != 0) = false := by simpa using he
    have hl : (700 : Int) < S.length := by
      rcases hE with h | h
      · exact absurd h he
      · omega
    clear hE he
    go_enter Tryz.func6, Tryz.ntmps6
    go_wp2_with (first
      | (go_at_call 8; refine (c8 _ bgo).mono ?_; rintro r w1 ⟨rfl, hb1⟩; obtain ⟨hc1, hf1⟩ := bcell hb1; have hz1_0 : w.heap.size < w1.heap.size := lt_below hb1 ltg; have hl1_0 := Nat.le_of_lt hz1_0; have hA1 := bnext (w0 := w) bgo hb1; have hs1 := hA1.size; clear hb1)
      | (go_at_call 21; refine (c21 _).mono ?_; rintro r w2 ⟨rfl, rfl⟩)
      | (go_at_call 11; refine (c11 _ (hT.go bgo)).mono ?_; rintro r w3 ⟨rfl, hb3⟩; obtain ⟨hc3, hf3⟩ := bcell hb3; have hz3_0 : w.heap.size < w3.heap.size := lt_below hb3 ltg; have hl3_0 := Nat.le_of_lt hz3_0; have hA3 := bnext (w0 := w) bgo hb3; have hs3 := hA3.size; clear hb3))
    go_ret
    exact ⟨rfl, bgo⟩
variable (S : List UInt8) (at_ : Int) (L K : Nat) (hL1 : 1 ≤ L) (hL7 : L ≤ 700) (hSL : S.length = L) (hat : -40000 ≤ at_ ∧ at_ ≤ 40000) (hmo : 0 ≤ mo ∧ mo ≤ 255) (hK : mo % 90 = (K : Int))
  (c11 : ∀ W, Tab W → Calls Tryz.prog 11 #[.int .i64 n, A4 V] W fun r w' => r = .returned (.tuple #[.string (B S), .int .i64 at_, .int .i64 0]) ∧ Below W.heap.size W w')
  (c : Int) (s g : Bool) (x : Int) (k : Nat) (b2 : Bool)
  (c13 : ∀ W, Calls Tryz.prog 13 #[.int .i64 n, A4 V] W fun r w' => r = .returned (.tuple #[DV c s g x k, .bool b2]) ∧ Below W.heap.size W w')
  (T : List UInt8)
  (c9 : ∀ W, Tab W → Tb10 W → Calls Tryz.prog 9 #[.int .i64 n, .int .i64 d, .int .i64 ((L : Int) + K), A4 V] W fun r w' => r = .returned (.tuple #[.string (B T), .bool false, .int .i64 0]) ∧ Below W.heap.size W w')
  (c22 : ∀ W, Tb10 W → Calls Tryz.prog 22 #[.bool s, .string (B (S ++ List.replicate K 48)), .int .i64 (at_ - K)] W fun r w' => r = .returned (.string (B T)) ∧ Below W.heap.size W w')
include hL1 hL7 hSL hat hmo hK c11 c13 c9 c22
set_option maxHeartbeats 4000000 in
theorem fa_1 (h1 : (((L : Nat) : Int) == 1) = true) :
    Calls Tryz.prog 6 #[.int .i64 n, .int .i64 d, A4 V, .int .u8 mo] w fun r w' => r = .returned (.bool true) ∧ Below w.heap.size w w' := by
  have hsm := cell_set_map
  have htl := B_toList
  have zS : (B S).size = L := (B_size S).trans hSL
  have hK1 : K ≤ 89 := by omega
  have hKt : mo.tmod 90 = (K : Int) := by rw [Int.tmod_eq_emod_of_nonneg hmo.1]; exact hK
  have hst : Hid (∀ j, j ≤ 89 → (B (S ++ List.replicate j 48)) ++ (⟨#[48]⟩ : ByteArray) = B (S ++ List.replicate (j + 1) 48) ∧ (B (S ++ List.replicate j 48)).size = L + j) := fun j _ => by
    refine ⟨?_, by rw [B_size, List.length_append, List.length_replicate, hSL]⟩
    rw [show (⟨#[48]⟩ : ByteArray) = B [48] from rfl, B_app, List.append_assoc, List.replicate_succ']
  have hs0 : S = S ++ List.replicate 0 48 := by simp
  have HS0 : Hid (B S = B (S ++ List.replicate 0 48)) := congrArg B hs0
  clear hSL hs0
  unfold DV A4 at *
  go_enter Tryz.func6, Tryz.ntmps6
  go_wp2_with (first
    | (go_at_call 8; refine (c8 _ bgo).mono ?_; rintro r w1 ⟨rfl, hb1⟩; obtain ⟨hc1, hf1⟩ := bcell hb1; have hz1_0 : w.heap.size < w1.heap.size := lt_below hb1 ltg; have hl1_0 := Nat.le_of_lt hz1_0; have hA1 := bnext (w0 := w) bgo hb1; have hs1 := hA1.size; clear hb1)
    | (go_at_call 21; refine (c21 _).mono ?_; rintro r w2 ⟨rfl, rfl⟩)
    | (go_at_call 11; refine (c11 _ (hT.go bgo)).mono ?_; rintro r w3 ⟨rfl, hb3⟩; obtain ⟨hc3, hf3⟩ := bcell hb3; have hz3_0 : w.heap.size < w3.heap.size := lt_below hb3 ltg; have hl3_0 := Nat.le_of_lt hz3_0; have hA3 := bnext (w0 := w) bgo hb3; have hs3 := hA3.size; clear hb3)
    | (go_at_call 13; refine (c13 _).mono ?_; rintro r w4 ⟨rfl, hb4⟩; obtain ⟨hc4, hf4⟩ := bcell hb4; have hz4_0 : w.heap.size < w4.heap.size := lt_below hb4 ltg; have hl4_0 := Nat.le_of_lt hz4_0; have hA4 := bnext (w0 := w) bgo hb4; have hs4 := hA4.size; clear hb4))
  rw [HS0.out]
  clear HS0 c8 c21 c11 c13
  have hlt : w4.heap.size < w4.heap.size + 1 := Nat.lt_succ_self _
  go_loop [15, 55, 56, 57, 58, 59] (fun t15 t55 _ _ _ _ => ∃ j : Nat, j ≤ K ∧ t15 = .string (B (S ++ List.replicate j 48)) ∧ t55 = .int .i64 (j : Int)) (fun _ t55 _ _ _ _ => K - (intOf t55).toNat)
  case atStart => exact ⟨0, Nat.zero_le _, rfl, rfl⟩
  case round =>
    obtain ⟨j, hj, rfl, rfl⟩ := hrel
    obtain ⟨q1, q2⟩ := hst.out j (by omega)
    by_cases h4 : j < K
    · have h4i : (j : Int) < K := by omega
      generalize hG : S ++ List.replicate j 48 = G at *
      generalize hG1 : S ++ List.replicate (j + 1) 48 = G1 at *
      clear hG
      go_wp2
      go_round
      case rel => exact ⟨j + 1, h4, by rw [hG1], by go_num⟩
      case measure => simp [intOf]; omega
    · obtain rfl : j = K := by omega
      clear q1 hst
      generalize S ++ List.replicate j 48 = G at *
      go_wp2_with (first
        | (go_at_call 9; refine (c9 _ (hT.go bgo) (hT10.next bgo)).mono ?_; rintro r w5 ⟨rfl, hb5⟩; obtain ⟨hc5, hf5⟩ := bcell hb5; have hz5_0 : w.heap.size < w5.heap.size := lt_below hb5 ltg; have hl5_0 := Nat.le_of_lt hz5_0; have hz5_1 : w4.heap.size < w5.heap.size := lt_below hb5 ltg; have hl5_1 := Nat.le_of_lt hz5_1; have hA5 := bnext (w0 := w) bgo hb5; have hs5 := hA5.size; clear hb5)
        | (go_at_call 22; refine (c22 _ (hT10.next bgo)).mono ?_; rintro r w6 ⟨rfl, hb6⟩; obtain ⟨hc6, hf6⟩ := bcell hb6; have hz6_0 : w.heap.size < w6.heap.size := lt_below hb6 ltg; have hl6_0 := Nat.le_of_lt hz6_0; have hz6_1 : w4.heap.size < w6.heap.size := lt_below hb6 ltg; have hl6_1 := Nat.le_of_lt hz6_1; have hA6 := bnext (w0 := w) bgo hb6; have hs6 := hA6.size; clear hb6))
      go_ret
      exact ⟨rfl, bgo⟩
set_option maxHeartbeats 4000000 in
theorem fa_m (h1 : (((L : Nat) : Int) == 1) = false) (T' : List UInt8) (c9' : ∀ W, Tab W → Tb10 W → Calls Tryz.prog 9 #[.int .i64 n, .int .i64 d, .int .i64 ((L : Int) - 1), A4 V] W fun r w' => r = .returned (.tuple #[.string (B T'), .bool true, .int .i64 0]) ∧ Below W.heap.size W w') :
    Calls Tryz.prog 6 #[.int .i64 n, .int .i64 d, A4 V, .int .u8 mo] w fun r w' => r = .returned (.bool true) ∧ Below w.heap.size w w' := by
  have hsm := cell_set_map
  have htl := B_toList
  have zS : (B S).size = L := (B_size S).trans hSL
  have hK1 : K ≤ 89 := by omega
  have hKt : mo.tmod 90 = (K : Int) := by rw [Int.tmod_eq_emod_of_nonneg hmo.1]; exact hK
  have hst : Hid (∀ j, j ≤ 89 → (B (S ++ List.replicate j 48)) ++ (⟨#[48]⟩ : ByteArray) = B (S ++ List.replicate (j + 1) 48) ∧ (B (S ++ List.replicate j 48)).size = L + j) := fun j _ => by
    refine ⟨?_, by rw [B_size, List.length_append, List.length_replicate, hSL]⟩
    rw [show (⟨#[48]⟩ : ByteArray) = B [48] from rfl, B_app, List.append_assoc, List.replicate_succ']
  have hs0 : S = S ++ List.replicate 0 48 := by simp
  have HS0 : Hid (B S = B (S ++ List.replicate 0 48)) := congrArg B hs0
  clear hSL hs0
  unfold DV A4 at *
  go_enter Tryz.func6, Tryz.ntmps6
  go_wp2_with (first
    | (go_at_call 8; refine (c8 _ bgo).mono ?_; rintro r w1 ⟨rfl, hb1⟩; obtain ⟨hc1, hf1⟩ := bcell hb1; have hz1_0 : w.heap.size < w1.heap.size := lt_below hb1 ltg; have hl1_0 := Nat.le_of_lt hz1_0; have hA1 := bnext (w0 := w) bgo hb1; have hs1 := hA1.size; clear hb1)
    | (go_at_call 21; refine (c21 _).mono ?_; rintro r w2 ⟨rfl, rfl⟩)
    | (go_at_call 11; refine (c11 _ (hT.go bgo)).mono ?_; rintro r w3 ⟨rfl, hb3⟩; obtain ⟨hc3, hf3⟩ := bcell hb3; have hz3_0 : w.heap.size < w3.heap.size := lt_below hb3 ltg; have hl3_0 := Nat.le_of_lt hz3_0; have hA3 := bnext (w0 := w) bgo hb3; have hs3 := hA3.size; clear hb3)
    | (go_at_call 13; refine (c13 _).mono ?_; rintro r w4 ⟨rfl, hb4⟩; obtain ⟨hc4, hf4⟩ := bcell hb4; have hz4_0 : w.heap.size < w4.heap.size := lt_below hb4 ltg; have hl4_0 := Nat.le_of_lt hz4_0; have hA4 := bnext (w0 := w) bgo hb4; have hs4 := hA4.size; clear hb4))
  rw [HS0.out]
  clear HS0 c8 c21 c11 c13
  have hlt : w4.heap.size < w4.heap.size + 1 := Nat.lt_succ_self _
  go_loop [15, 55, 56, 57, 58, 59] (fun t15 t55 _ _ _ _ => ∃ j : Nat, j ≤ K ∧ t15 = .string (B (S ++ List.replicate j 48)) ∧ t55 = .int .i64 (j : Int)) (fun _ t55 _ _ _ _ => K - (intOf t55).toNat)
  case atStart => exact ⟨0, Nat.zero_le _, rfl, rfl⟩
  case round =>
    obtain ⟨j, hj, rfl, rfl⟩ := hrel
    obtain ⟨q1, q2⟩ := hst.out j (by omega)
    by_cases h4 : j < K
    · have h4i : (j : Int) < K := by omega
      generalize hG : S ++ List.replicate j 48 = G at *
      generalize hG1 : S ++ List.replicate (j + 1) 48 = G1 at *
      clear hG
      go_wp2
      go_round
      case rel => exact ⟨j + 1, h4, by rw [hG1], by go_num⟩
      case measure => simp [intOf]; omega
    · obtain rfl : j = K := by omega
      clear q1 hst
      generalize S ++ List.replicate j 48 = G at *
      go_wp2_with (first
        | (have hh := hA6; go_at_call 9; refine (c9' _ (hT.go bgo) (hT10.next bgo)).mono ?_; rintro r w7 ⟨rfl, hb7⟩; obtain ⟨hc7, hf7⟩ := bcell hb7; have hz7_0 : w.heap.size < w7.heap.size := lt_below hb7 ltg; have hl7_0 := Nat.le_of_lt hz7_0; have hz7_1 : w4.heap.size < w7.heap.size := lt_below hb7 ltg; have hl7_1 := Nat.le_of_lt hz7_1; have hA7 := bnext (w0 := w) bgo hb7; have hs7 := hA7.size; clear hb7)
        | (go_at_call 9; refine (c9 _ (hT.go bgo) (hT10.next bgo)).mono ?_; rintro r w5 ⟨rfl, hb5⟩; obtain ⟨hc5, hf5⟩ := bcell hb5; have hz5_0 : w.heap.size < w5.heap.size := lt_below hb5 ltg; have hl5_0 := Nat.le_of_lt hz5_0; have hz5_1 : w4.heap.size < w5.heap.size := lt_below hb5 ltg; have hl5_1 := Nat.le_of_lt hz5_1; have hA5 := bnext (w0 := w) bgo hb5; have hs5 := hA5.size; clear hb5)
        | (go_at_call 22; refine (c22 _ (hT10.next bgo)).mono ?_; rintro r w6 ⟨rfl, hb6⟩; obtain ⟨hc6, hf6⟩ := bcell hb6; have hz6_0 : w.heap.size < w6.heap.size := lt_below hb6 ltg; have hl6_0 := Nat.le_of_lt hz6_0; have hz6_1 : w4.heap.size < w6.heap.size := lt_below hb6 ltg; have hl6_1 := Nat.le_of_lt hz6_1; have hA6 := bnext (w0 := w) bgo hb6; have hs6 := hA6.size; clear hb6))
      go_ret
      exact ⟨rfl, bgo⟩
end
/-- all its digits, with noughts behind -/
theorem all_text {k : Nat} {x : Int} {Y z : Nat} (d : Int) (s : Bool) (hk : k ≠ 0) (hX : exX k x = Y * 10 ^ z) (hY : Y % 10 ≠ 0) (K : Nat) :
    fxT d s k x (cuE k x) ((dcW Y).length + K) = sgL s ++ unT (dcW Y ++ List.replicate K 48) (exA x + z - K + (dcW Y ++ List.replicate K (48 : UInt8)).length - 1) ∧ fxI k x (cuE k x) ((dcW Y).length + K) = false ∧
    (2 ≤ (dcW Y).length → fxI k x (cuE k x) ((dcW Y).length - 1) = true) := by
  have hY0 : Y ≠ 0 := by omega
  have hlen : (dcW (exX k x)).length = (dcW Y).length + z := by rw [hX, dcW_zeros hY0]; simp
  have hv := ex_val k x
  rw [hX, show exA x = exA x + z - z by omega] at hv
  have h1 := fx_less hv
  have h2 := fx_more h1 K
  have eE : cuE k x = exA x + z + (dcW Y).length - 1 := by unfold cuE; rw [hlen]; omega
  have ea : cuE k x - ((dcW Y).length + K : Nat) + 1 = exA x + z - K := by rw [eE]; omega
  obtain ⟨w1, w2⟩ := wh_exact d s (fxB_pos x (exA x + z - K)) h2
  have eC : fxC d s k x (cuE k x) ((dcW Y).length + K) = Y * 10 ^ K := by unfold fxC; rw [ea]; exact w1
  have eW := dcW_zeros hY0 K
  have eL : (dcW (Y * 10 ^ K)).length = (dcW Y).length + K := by rw [eW]; simp
  refine ⟨?_, ?_, fun h2l => ?_⟩
  · unfold fxT fxD fxX
    rw [eC, eL, if_neg (by omega), ea, List.take_of_length_le (by omega), eW]
    congr 2
    simp only [List.length_append, List.length_replicate]
  · unfold fxI
    rw [ea, w2]
    rfl
  · have ea' : cuE k x - ((dcW Y).length - 1 : Nat) + 1 = exA x + z + 1 := by rw [eE]; omega
    unfold fxI
    rw [ea', decide_eq_false (fx_cut h1 hY)]
    rfl
theorem fixedAll_any (n d : Int) (V : Nat) (mo : Int) (w : World) (hT : Tab w) (hT10 : Tb10 w) (hV : V < 2 ^ 256) (hmo : 0 ≤ mo ∧ mo ≤ 255) : Calls Tryz.prog 6 #[.int .i64 n, .int .i64 d, A4 V, .int .u8 mo] w fun r w' => r = .returned (.bool true) ∧ Below w.heap.size w w' := by
  have c8 := fun W (hW : Below w.heap.size w W) => awake10 W (hT.go hW) (hT10.next hW)
  have c21 := fun W => rdir_any d W
  by_cases hd : knB d
  · rw [decide_eq_true hd] at c21
    by_cases hf : finP n V
    · obtain ⟨hg, hc, hk⟩ := hf
      obtain ⟨hb, hkb, hx1, hx2, hD⟩ := fin_facts ⟨hg, hc, hk⟩
      obtain ⟨Y, z, hX, hY⟩ := strip_ex (ex_ne hk (unD n V).x)
      have hY0 : Y ≠ 0 := by omega
      have c11 := fun W hW => fexact_k hV ⟨hg, hc, hk⟩ hX hY W hW
      have hXb := ex_short hkb ⟨hx1, hx2⟩
      have lm := dcW_most (ex_ne hk (unD n V).x) hXb
      rw [hX, dcW_zeros hY0, List.length_append, List.length_replicate] at lm
      obtain ⟨l1, _, _⟩ := dcW_bd hY0
      by_cases h7 : 700 < (dcW Y).length
      · exact fa_e n d V mo w hT hT10 c8 c21 (dcW Y) _ 0 (Or.inr h7) (by omega) c11
      · have c6 := fun W => runpack_any n V W hV
        rw [show unE n V = 0 from if_pos hg] at c6
        have eD : (unD n V).v = DV 1 (unD n V).s (unD n V).g (unD n V).x (unD n V).k := by rw [← hc]
        rw [eD] at c6
        have c13 := fun W => fin9_y n V (unD n V).s (unD n V).g (unD n V).x (unD n V).k W hb c6 hkb hk
        obtain ⟨K, hK⟩ : ∃ K : Nat, mo % 90 = (K : Int) := ⟨(mo % 90).toNat, by omega⟩
        have hK9 : K ≤ 89 := by omega
        obtain ⟨a1, a2, a3⟩ := all_text d (unD n V).s hk hX hY K
        have hxA : -17000 ≤ exA (unD n V).x ∧ exA (unD n V).x ≤ 17000 := by unfold exA; split <;> omega
        have c9 : ∀ W, Tab W → Tb10 W → Calls Tryz.prog 9 #[.int .i64 n, .int .i64 d, .int .i64 (((dcW Y).length : Int) + K), A4 V] W fun r w' => r = .returned (.tuple #[.string (B (fxT d (unD n V).s (unD n V).k (unD n V).x (cuE (unD n V).k (unD n V).x) ((dcW Y).length + K))), .bool false, .int .i64 0]) ∧ Below W.heap.size W w' := fun W hW hW10 => by
          have := fwrite_k hV hd hg W hW (m := (dcW Y).length + K) (by omega) (by omega) hW10 hc hk rfl
          rw [a2, Int.natCast_add] at this
          exact this
        have c22 : ∀ W, Tb10 W → Calls Tryz.prog 22 #[.bool (unD n V).s, .string (B (dcW Y ++ List.replicate K 48)), .int .i64 (exA (unD n V).x + z - K)] W fun r w' => r = .returned (.string (B (fxT d (unD n V).s (unD n V).k (unD n V).x (cuE (unD n V).k (unD n V).x) ((dcW Y).length + K)))) ∧ Below W.heap.size W w' := fun W hW10 => by
          rw [a1]
          exact lay_v (unD n V).s (dcW Y ++ List.replicate K 48) (exA (unD n V).x + z - K) W hW10 (by omega) (by simp only [List.length_append, List.length_replicate]; omega)
        by_cases h1 : (dcW Y).length = 1
        · exact fa_1 n d V mo w hT hT10 c8 c21 (dcW Y) _ (dcW Y).length K l1 (by omega) rfl (by omega) hmo hK c11 1 (unD n V).s (unD n V).g (unD n V).x (unD n V).k true c13 _ c9 c22 (by rw [beq_iff_eq]; omega)
        · refine fa_m n d V mo w hT hT10 c8 c21 (dcW Y) _ (dcW Y).length K l1 (by omega) rfl (by omega) hmo hK c11 1 (unD n V).s (unD n V).g (unD n V).x (unD n V).k true c13 _ c9 c22 (by rw [beq_eq_false_iff_ne]; omega) (fxT d (unD n V).s (unD n V).k (unD n V).x (cuE (unD n V).k (unD n V).x) ((dcW Y).length - 1)) fun W hW hW10 => ?_
          have := fwrite_k hV hd hg W hW (m := (dcW Y).length - 1) (by omega) (by omega) hW10 hc hk rfl
          rw [a3 (by omega), show (((dcW Y).length - 1 : Nat) : Int) = ((dcW Y).length : Int) - 1 by omega] at this
          exact this
    · refine fa_e n d V mo w hT hT10 c8 c21 [] 0 (if goodN n V then 6 else 1) (Or.inl ?_) (by decide) (fun W hW => fexact_n hV hf W hW)
      split <;> decide
  · rw [decide_eq_false hd] at c21
    exact fa_d n d V mo w hT hT10 c8 c21
end Go.Proofs.YtogfiipmebgnjaaGreatDoor
