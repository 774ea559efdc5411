/-
  Texts that the proof leans on, joined: Uq, Kd, Ut, Eh, Lift, Lfw, Lt, Lfn, Uw, Ux.
-/
import Derived.Test.YtmommdhnogogdaaDoorJ32
import Derived.Test.YtmommdhnogogdaaDoorJ8
import Derived.Test.YtmommdhnogogdaaDoorJ17
import Derived.Test.YtmommdhnogogdaaDoorJ21
import Derived.Test.YtmommdhnogogdaaDoorJ20
import Derived.Test.YtmommdhnogogdaaDoorJ11
import Derived.Lib.TrimByte
import Derived.Lib.ItoaLen
import Derived.Test.YtmommdhnogogdaaDoorJ15
import Derived.Test.YtmommdhnogogdaaDoorJ36
import Derived.Test.YtmommdhnogogdaaDoorJ25
import Derived.Test.YtmommdhnogogdaaDoorJ33
import Derived.Test.YtmommdhnogogdaaDoorJ26
import Derived.ProofKit
import Derived.OpenShut
import Derived.Carry
import Derived.Deep.DeepHandedRow
import Derived.Test.YtmommdhnogogdaaDoorJ2
import Derived.Test.YtmommdhnogogdaaDoorJ1
import Derived.Test.YtmommdhnogogdaaDoorRows
import Derived.LaidLaws
import Derived.Test.YtmommdhnogogdaaDoorJ35
set_option linter.unusedVariables false
set_option linter.unusedSectionVars false
set_option linter.unusedSimpArgs false
set_option maxRecDepth 20000
namespace Go.Proofs.YtmommdhnogogdaaDoor
open Go.RowKit
theorem Nt.wide {K K' V : Nat} {v : Value} {w : World} (h : Nt K V v w) (hK : K ≤ K') : Nt K' V v w := by
  obtain ⟨a, k, c, z, e, h2, h3, h4⟩ := h
  exact ⟨a, k, c, z, e, by omega, h3, h4⟩
end Go.Proofs.YtmommdhnogogdaaDoor

namespace Go.Proofs.YtmommdhnogogdaaDoor
open Go.RowKit

/-- a number in a list of words, or nothing, which is 0 -/
def NO (K X : Nat) (v : Value) (w : World) : Prop := (v = .slice none 0 0 ∧ X = 0) ∨ NT K X v w
theorem NO.next {K X : Nat} {v : Value} {w w' : World} (h : NO K X v w) (hb : Below w.heap.size w w') : NO K X v w' := by
  rcases h with h | h
  · exact Or.inl h
  · exact Or.inr (h.next hb)
theorem NO.more {K K' X : Nat} {v : Value} {w : World} (h : NO K X v w) (hk : K ≤ K') : NO K' X v w := by
  rcases h with h | h
  · exact Or.inl h
  · exact Or.inr (h.more hk)
theorem NO.nt {K X : Nat} {v : Value} {w : World} (h : NO K X v w) : Nt K X v w := by
  rcases h with ⟨rfl, rfl⟩ | h
  · exact ⟨none, 0, 0, fun _ => 0, rfl, Nat.zero_le _, ⟨Nat.le_refl _, by unfold maxLen; omega, fun _ => ⟨Int.le_refl _, show (0 : Int) ≤ _ by decide⟩, fun _ _ => rfl, Or.inl ⟨rfl, rfl⟩⟩, rfl⟩
  · obtain ⟨g, k, cap, z, h1, h2, h3, h4, _⟩ := h
    exact ⟨_, k, cap, z, h1, h2, h3, h4⟩
theorem radd_no {K K' X Y : Nat} {v v' : Value} {w : World} (hK : K ≤ 100000) (hK' : K' ≤ 100000) (h : Nt K X v w) (h' : Nt K' Y v' w) : Calls Tryd.prog 12 #[v, v'] w fun r w' => ∃ v, r = .returned v ∧ NT (K + K' + 1) (X + Y) v w' ∧ Below w.heap.size w w' := by
  obtain ⟨a, k, c, z, rfl, hk, hN, hz⟩ := h
  obtain ⟨a', k', c', z', rfl, hk', hN', hz'⟩ := h'
  refine (radd_vt a a' k c k' c' z z' w (by omega) (by omega) hN hN').mono fun r w' ⟨g, k2, cap, y, e1, e2, e3, e4, e5, e6⟩ => ⟨_, e1, ⟨g, k2, cap, y, rfl, by omega, e3, ?_, e6⟩, e5⟩
  rw [e4, hz, hz']
  omega
end Go.Proofs.YtmommdhnogogdaaDoor

namespace Go.Proofs.YtmommdhnogogdaaDoor
open Go.RowKit
theorem NT.toNt {K V : Nat} {v : Value} {w : World} (h : NT K V v w) : Nt K V v w := by
  obtain ⟨g, k, c, z, e, h1, h2, h3, h4⟩ := h
  exact ⟨_, k, c, z, e, h1, h2, h3⟩
theorem ten_move {a b p q p' q' : Nat} (h : a * 10 ^ p ≤ b * 10 ^ q) (e : (p' : Int) - q' = (p : Int) - q) : a * 10 ^ p' ≤ b * 10 ^ q' := by
  rcases Nat.le_total p p' with hp | hp
  · obtain ⟨t, rfl⟩ : ∃ t, p' = p + t := ⟨p' - p, by omega⟩
    obtain rfl : q' = q + t := by omega
    rw [Nat.pow_add, Nat.pow_add, ← Nat.mul_assoc, ← Nat.mul_assoc]
    exact Nat.mul_le_mul_right _ h
  · obtain ⟨t, rfl⟩ : ∃ t, p = p' + t := ⟨p - p', by omega⟩
    obtain rfl : q = q' + t := by omega
    rw [Nat.pow_add, Nat.pow_add, ← Nat.mul_assoc, ← Nat.mul_assoc] at h
    exact Nat.le_of_mul_le_mul_right h (ten_pos t)
/-- what Decimal answers is the format's -/
theorem rq_is {n d x y : Int} {s : Bool} {N D : Nat} (h : rqE n d N D = 0) : vI (fD n) (rqD n d s N D x y) := by
  obtain ⟨h1, h2, h3, h4, h5⟩ := rq_zero h
  obtain ⟨m0, m1, l0, l1, lm, j0, j1⟩ := ok_m (fD_ok n)
  unfold rqD
  rw [if_pos h]
  by_cases hN : N = 0
  · rw [if_pos hN]
    refine Or.inl ⟨rfl, rfl, ten_pos _, ?_, ?_⟩
    · show (fD n).l ≤ min (max y (fD n).l) (fD n).m
      omega
    · show min (max y (fD n).l) (fD n).m ≤ (fD n).m
      omega
  · rw [if_neg hN]
    have hD : 0 < D * 10 ^ (-(clT x)).toNat := Nat.mul_pos (by omega) (ten_pos _)
    exact dkD_is (fD_ok n) hD (tnX_is (Nat.mul_pos (by omega) (ten_pos _)) hD)
theorem rq_rises {n d x : Int} {N M D : Nat} (h : rqE n d N D = 0) (h' : rqE n d (N + M) D = 0) :
    (rqD n d false (N + M) D x 0).c = 2 ∨ ((rqD n d false N D x 0).c = 1 ∧ (rqD n d false (N + M) D x 0).c = 1 ∧ dkW (fD n) (rqD n d false N D x 0) ≤ dkW (fD n) (rqD n d false (N + M) D x 0)) := by
  obtain ⟨h1, h2, h3, h4, h5⟩ := rq_zero h
  have hi' := rq_is (s := false) (x := x) (y := 0) h'
  by_cases hN : N = 0
  · have ha : rqD n d false N D x 0 = ⟨1, false, false, min (max 0 (fD n).l) (fD n).m, 0⟩ := by unfold rqD; rw [if_pos h, if_pos hN]
    have hc : (rqD n d false (N + M) D x 0).c = 1 ∨ (rqD n d false (N + M) D x 0).c = 2 := by
      have := rq_is (s := false) (x := x) (y := 0) h'
      unfold rqD
      rw [if_pos h']
      by_cases hM : N + M = 0
      · rw [if_pos hM]; exact Or.inl rfl
      · rw [if_neg hM]
        unfold dkD
        split
        · split
          · exact Or.inr rfl
          · exact Or.inl rfl
        · split <;> exact Or.inl rfl
    rcases hc with e | e
    · right
      refine ⟨by rw [ha], e, ?_⟩
      rw [ha]; unfold dkW; simp only [Nat.zero_mul]; exact Nat.zero_le _
    · exact Or.inl e
  · have hD : 0 < D * 10 ^ (-(clT x)).toNat := Nat.mul_pos (by omega) (ten_pos _)
    have e1 : rqD n d false N D x 0 = dkD (fD n) d false (N * 10 ^ (clT x).toNat) (D * 10 ^ (-(clT x)).toNat) (tnX (N * 10 ^ (clT x).toNat) (D * 10 ^ (-(clT x)).toNat)) 0 := by unfold rqD; rw [if_pos h, if_neg hN]
    have e2 : rqD n d false (N + M) D x 0 = dkD (fD n) d false ((N + M) * 10 ^ (clT x).toNat) (D * 10 ^ (-(clT x)).toNat) (tnX ((N + M) * 10 ^ (clT x).toNat) (D * 10 ^ (-(clT x)).toNat)) 0 := by unfold rqD; rw [if_pos h', if_neg (by omega)]
    rw [e1, e2]
    exact dk_rises (fD_ok n) hD (Nat.mul_le_mul_right _ (by omega)) (tnX_is (Nat.mul_pos (by omega) (ten_pos _)) hD) (tnX_is (Nat.mul_pos (by omega) (ten_pos _)) hD)
theorem rqE_size {n d : Int} {N N' D : Nat} (h : bl N ≤ 25600) (h' : bl N' ≤ 25600) : rqE n d N' D = rqE n d N D := by
  unfold rqE
  by_cases hq : decN n ∧ knB d ∧ D ≠ 0
  · rw [if_pos hq, if_pos hq]
    by_cases hd : 25600 < bl D
    · rw [if_pos (Or.inr hd), if_pos (Or.inr hd)]
    · rw [if_neg (by omega), if_neg (by omega)]
  · rw [if_neg hq, if_neg hq]
theorem val_bl {z : Nat → Int} {w : World} {a : Option Addr} {k c B : Nat} (h : Num w a k c z) (hk : 64 * k ≤ B) : bl (val z k).toNat ≤ B := by
  have hb := val_bd h.2.2.1 k
  refine bl_le.2 ?_
  have e : (18446744073709551616 : Int) ^ k = ((2 ^ (64 * k) : Nat) : Int) := p64n k
  have hp : (2 : Nat) ^ (64 * k) ≤ 2 ^ B := Nat.pow_le_pow_right (by decide) hk
  rw [e] at hb
  generalize (2 : Nat) ^ B = Z at *
  omega
theorem bl_sum {a b B : Nat} (h : bl a ≤ B) (h' : bl b ≤ B) : bl (a + b) ≤ B + 1 := by
  have q1 := bl_le.1 h
  have q2 := bl_le.1 h'
  refine bl_le.2 ?_
  rw [Nat.pow_succ]
  omega
/-- a datum's coefficient, scaled by its exponent -/
theorem scale_d {k : Nat} {x : Int} (hk : bl k ≤ 1000) (hx : -20000 ≤ x ∧ x ≤ 20000) (W : World) (u v : Value) (hu : NT 7000 k u W) (hv : NT 7000 1 v W) :
    Calls Tryd.prog 13 #[u, v, .int .u64 10, .int .i64 x] W fun e w' => ∃ p q, e = .returned (.tuple #[p, q]) ∧ NT 7000 (k * 10 ^ x.toNat) p w' ∧ NT 7000 (10 ^ (-x).toNat) q w' ∧ Below W.heap.size W w' := by
  have c := rscaleT (N := k) (D := 1) x (by omega) hu hv (by omega) (bl_le.2 (by decide : (1 : Nat) < 2 ^ 1) |> fun h => Nat.le_trans h (by decide))
  rw [Nat.one_mul] at c
  exact c
theorem nat_d (k : Nat) (hk : k < 2 ^ 256) (W : World) : Calls Tryd.prog 14 #[A4 k] W fun e w' => ∃ v, e = .returned v ∧ NT 7000 k v w' ∧ Below W.heap.size W w' := by
  refine (rnat13 k W hk).mono ?_
  rintro r w' ⟨g, m, cap, rfl, _, hn, hb⟩
  exact ⟨_, rfl, hn.more (by decide), hb⟩
theorem coef_256 {f : DF} (hf : f.ok) {k : Nat} (h : k < 10 ^ (3 * f.j + 1)) : k < 2 ^ 256 ∧ bl k ≤ 1000 := by
  obtain ⟨m0, m1, l0, l1, lm, j0, j1⟩ := ok_m hf
  have e : (10 : Nat) ^ (3 * f.j + 1) ≤ 10 ^ 34 := Nat.pow_le_pow_right (by decide) (by omega)
  have e2 : (10 : Nat) ^ 34 < 2 ^ 256 := by decide
  have h1 : k < 2 ^ 256 := by omega
  exact ⟨h1, Nat.le_trans (bl_le.2 h1) (by decide)⟩
theorem rises15_v {TT : World → Prop} (h : DrdC TT) (n d x : Int) (an am ad : Option Addr) (kn cn km cm kd cd : Nat) (zn zm zd' : Nat → Int) (w : World) (hT : TT w) (i1 : i6 n) (i2 : i6 d) (i3 : i6 x) (hn : Num w an kn cn zn) (hm : Num w am km cm zm) (hd : Num w ad kd cd zd') :
    Calls Tryd.prog 6 #[.int .i64 n, .int .i64 d, .slice an kn cn, .slice am km cm, .slice ad kd cd, .int .i64 x] w fun r w' => r = .returned (.bool true) ∧ Below w.heap.size w w' := by
  by_cases h1 : (60 : Int) < (kn : Int)
  · exact dris_l1 TT h.next n d x an am ad kn cn km cm kd cd w hT h.awk h1
  by_cases h2 : (60 : Int) < (km : Int)
  · exact dris_l2 TT h.next n d x an am ad kn cn km cm kd cd w hT h.awk h1 h2
  by_cases h3 : (60 : Int) < (kd : Int)
  · exact dris_l3 TT h.next n d x an am ad kn cn km cm kd cd w hT h.awk h1 h2 h3
  have i0 : i6 0 := by unfold i6; omega
  have bN := val_bl (B := 3840) hn (by omega)
  have bM := val_bl (B := 3840) hm (by omega)
  have c10 : ∀ W, TT W → Below w.heap.size w W → _ := fun W hW hB => h.dec n d x 0 false _ _ _ _ W i1 i2 i3 i0 hW (num_Nt (hn.next hB) (by omega)) (num_Nt (hd.next hB) (by omega))
  have cA : ∀ W, Below w.heap.size w W → Calls Tryd.prog 12 #[.slice an kn cn, .slice am km cm] W fun r w' => ∃ v, r = .returned v ∧ Nt 2001 ((val zn kn).toNat + (val zm km).toNat) v w' ∧ Below W.heap.size W w' := fun W hB => by
    have a1 : Nt 60 (val zn kn).toNat (.slice an kn cn) W := nt_fit (num_Nt (hn.next hB) (by omega)) (by omega)
    have a2 : Nt 60 (val zm km).toNat (.slice am km cm) W := nt_fit (num_Nt (hm.next hB) (by omega)) (by omega)
    refine (radd_no (by decide) (by decide) a1 a2).mono ?_
    rintro r w' ⟨v, rfl, hv, hb⟩
    exact ⟨v, rfl, hv.toNt.wide (by decide), hb⟩
  have c11 : ∀ W v, TT W → Below w.heap.size w W → Nt 2001 ((val zn kn).toNat + (val zm km).toNat) v W → _ := fun W v hW hB hv => h.dec n d x 0 false _ _ v _ W i1 i2 i3 i0 hW hv (num_Nt (hd.next hB) (by omega))
  have bS := bl_sum bN bM
  generalize (val zn kn).toNat = N at *
  generalize (val zm km).toNat = M at *
  generalize (val zd' kd).toNat = D at *
  have eE := rqE_size (n := n) (d := d) (N := N) (N' := N + M) (D := D) (by omega) (by omega)
  by_cases hE : rqE n d N D = 0
  · have hE' : rqE n d (N + M) D = 0 := by rw [eE]; exact hE
    have ia := rq_is (s := false) (x := x) (y := 0) hE
    have ib := rq_is (s := false) (x := x) (y := 0) hE'
    obtain ⟨m0, m1, l0, l1, lm, j0, j1⟩ := ok_m (fD_ok n)
    rcases rq_rises (x := x) hE hE' with hc | ⟨ha, hb, hw⟩
    · by_cases ha : (rqD n d false N D x 0).c = 1
      · exact dris_c TT h.next n d x an am ad kn cn km cm kd cd w hT h.awk h1 h2 h3 _ _ _ _ _ _ _ _ _ _ _ _ _ _ _ c10 cA c11 hE hE' (Or.inr ⟨ha, by rw [hc]; rfl⟩) hc
      · exact dris_c TT h.next n d x an am ad kn cn km cm kd cd w hT h.awk h1 h2 h3 _ _ _ _ _ _ _ _ _ _ _ _ _ _ _ c10 cA c11 hE hE' (Or.inl (by simpa using ha)) hc
    · have fa : (rqD n d false N D x 0).k < 10 ^ (3 * (fD n).j + 1) ∧ (fD n).l ≤ (rqD n d false N D x 0).x ∧ (rqD n d false N D x 0).x ≤ (fD n).m := by
        rcases ia with ⟨_, _, a, b, c⟩ | ⟨a, _⟩ | ⟨a, _⟩
        · exact ⟨a, b, c⟩
        · rw [ha] at a; exact absurd a (by decide)
        · rw [ha] at a; exact absurd a (by decide)
      have fb : (rqD n d false (N + M) D x 0).k < 10 ^ (3 * (fD n).j + 1) ∧ (fD n).l ≤ (rqD n d false (N + M) D x 0).x ∧ (rqD n d false (N + M) D x 0).x ≤ (fD n).m := by
        rcases ib with ⟨_, _, a, b, c⟩ | ⟨a, _⟩ | ⟨a, _⟩
        · exact ⟨a, b, c⟩
        · rw [hb] at a; exact absurd a (by decide)
        · rw [hb] at a; exact absurd a (by decide)
      generalize rqD n d false N D x 0 = va at *
      generalize rqD n d false (N + M) D x 0 = vb at *
      obtain ⟨ka1, ka2⟩ := coef_256 (fD_ok n) fa.1
      obtain ⟨kb1, kb2⟩ := coef_256 (fD_ok n) fb.1
      refine dris_k TT h.next n d x an am ad kn cn km cm kd cd w hT h.awk h1 h2 h3 _ _ _ _ _ _ _ _ _ _ _ _ _ _ _ c10 cA c11 hE hE' ha hb (va.k * 10 ^ va.x.toNat) (10 ^ (-va.x).toNat) (vb.k * 10 ^ vb.x.toNat) (10 ^ (-vb.x).toNat) (va.k * 10 ^ va.x.toNat * 10 ^ (-vb.x).toNat) (vb.k * 10 ^ vb.x.toNat * 10 ^ (-va.x).toNat) _ (nat_d va.k ka1) (scale_d ka2 (by omega)) (nat_d vb.k kb1) (scale_d kb2 (by omega)) (fun W u v hu hv => ?_) (fun W u v hu hv => ?_) (fun W u v hu hv => rcmp_nv (by decide) (by decide) hu.nv hv.nv) ?_
      · refine (rtimes_nt (by decide) (by decide) hu.nv hv.nv).mono ?_
        rintro r w' ⟨p, rfl, hp, hb⟩
        exact ⟨p, rfl, hp.more (by decide), hb⟩
      · refine (rtimes_nt (by decide) (by decide) hu.nv hv.nv).mono ?_
        rintro r w' ⟨p, rfl, hp, hb⟩
        exact ⟨p, rfl, hp.more (by decide), hb⟩
      · have hle : va.k * 10 ^ va.x.toNat * 10 ^ (-vb.x).toNat ≤ vb.k * 10 ^ vb.x.toNat * 10 ^ (-va.x).toNat := by
          rw [Nat.mul_assoc, Nat.mul_assoc, ← Nat.pow_add, ← Nat.pow_add]
          unfold dkW at hw
          exact ten_move hw (by omega)
        rcases sgn_ways ((va.k * 10 ^ va.x.toNat * 10 ^ (-vb.x).toNat : Nat) : Int) ((vb.k * 10 ^ vb.x.toNat * 10 ^ (-va.x).toNat : Nat) : Int) with ⟨_, e⟩ | ⟨_, e⟩ | ⟨q, e⟩
        · rw [e]; decide
        · rw [e]; decide
        · omega
  · exact dris_e TT h.next n d x an am ad kn cn km cm kd cd w hT h.awk h1 h2 h3 _ _ _ _ _ _ _ _ _ _ _ _ _ _ _ c10 cA c11 (by simpa using hE) eE
end Go.Proofs.YtmommdhnogogdaaDoor

namespace Go.Proofs.YtmommdhnogogdaaDoor
open Go.RowKit
theorem decroundDecimal_any (n d : Int) (s : Bool) (an : Option Addr) (kn cn : Nat) (zn : Nat → Int) (ad : Option Addr) (kd cd : Nat) (zd' : Nat → Int) (x y : Int) (w : World) (hT : Tab w) (i1 : i6 n) (i2 : i6 d) (hn : Num w an kn cn zn) (hd : Num w ad kd cd zd') (i3 : i6 x) (i4 : i6 y) :
    Calls Tryd.prog 3 #[.int .i64 n, .int .i64 d, .bool s, .slice an kn cn, .slice ad kd cd, .agg #[.int .i64 x, .int .i64 y]] w fun r w' => r = .returned (.bool true) ∧ Below w.heap.size w w' :=
  decimal15_v drdC n d x y s an ad kn cn kd cd zn zd' w hT i1 i2 i3 i4 hn hd
theorem decroundTurns_any (n d : Int) (an : Option Addr) (kn cn : Nat) (zn : Nat → Int) (ad : Option Addr) (kd cd : Nat) (zd' : Nat → Int) (x y : Int) (w : World) (hT : Tab w) (i1 : i6 n) (i2 : i6 d) (hn : Num w an kn cn zn) (hd : Num w ad kd cd zd') (i3 : i6 x) (i4 : i6 y) :
    Calls Tryd.prog 5 #[.int .i64 n, .int .i64 d, .slice an kn cn, .slice ad kd cd, .int .i64 x, .int .i64 y] w fun r w' => r = .returned (.bool true) ∧ Below w.heap.size w w' :=
  turns15_v drdC n d x y an ad kn cn kd cd zn zd' w hT i1 i2 i3 i4 hn hd
theorem decroundRises_any (n d : Int) (an : Option Addr) (kn cn : Nat) (zn : Nat → Int) (am : Option Addr) (km cm : Nat) (zm : Nat → Int) (ad : Option Addr) (kd cd : Nat) (zd' : Nat → Int) (x : Int) (w : World) (hT : Tab w) (i1 : i6 n) (i2 : i6 d) (hn : Num w an kn cn zn) (hm : Num w am km cm zm) (hd : Num w ad kd cd zd') (i3 : i6 x) :
    Calls Tryd.prog 6 #[.int .i64 n, .int .i64 d, .slice an kn cn, .slice am km cm, .slice ad kd cd, .int .i64 x] w fun r w' => r = .returned (.bool true) ∧ Below w.heap.size w w' :=
  rises15_v drdC n d x an am ad kn cn km cm kd cd zn zm zd' w hT i1 i2 i3 hn hm hd
end Go.Proofs.YtmommdhnogogdaaDoor

namespace Go.Proofs.YtmommdhnogogdaaDoor
open Go.ChangeShapes Go.WideShapes Go.ChangeAt Go.RowKit

theorem Tryd.own : ownKnob Tryd.prog.godebug = none := by kernel_rfl
theorem Tryd.laidOut : laidOutB Tryd.prog = true := by kernel_rfl
def tabCells : Array Value := ((List.range 12).flatMap fun i => (List.range 4).map fun k => rowV i k).toArray
def layCells (c : Array Value) : Obj → Obj
  | .cells _ t frozen => .cells c t frozen
  | o => o
end Go.Proofs.YtmommdhnogogdaaDoor

set_option maxRecDepth 100000
set_option maxRecDepth 20000
namespace Go.Proofs.YtmommdhnogogdaaDoor
open Go.ChangeShapes Go.WideShapes Go.ChangeAt Go.RowKit

theorem Tryd.cells26 : Tryd.prog.cellsOf 26 = 1 := by kernel_rfl
section
variable {H : Type} {enc : TypeId × Value → H} {W : World} {r : Reach} {base b : Nat} {sp : Nat → Bool} {held : Bool} {t : TypeId} {n : Nat} {v : Value} {d : DataW H} {p : List MemPlace}
end
end Go.Proofs.YtmommdhnogogdaaDoor

set_option maxRecDepth 100000
namespace Go.Proofs.YtmommdhnogogdaaDoor
open Go.ChangeShapes Go.WideShapes Go.ChangeAt Go.RowKit
/-- Go's tables, as cells -/
def fst3Cells : Array Value := (((List.replicate 128 240 ++ List.replicate 66 241 ++ List.replicate 30 2 ++ [19] ++ List.replicate 12 3 ++ [35] ++ List.replicate 2 3 ++ [52] ++ List.replicate 3 4 ++ [68] ++ List.replicate 11 241 : List Int)).map fun n => Value.int .u8 n).toArray
def rng3Cells : Array Value := ((([128, 191, 160, 191, 128, 159, 144, 191, 128, 143] ++ List.replicate 22 0 : List Int)).map fun n => Value.int .u8 n).toArray
noncomputable def laidWorld3 (os : Os) : World :=
  { World.holding Tryd.prog os ⟨#[], #[], []⟩ with heap := (((World.holding Tryd.prog os ⟨#[], #[], []⟩).heap.modify 0 (layCells tabCells)).modify 3 (layCells fst3Cells)).modify 4 (layCells rng3Cells) }
theorem laid_tl3 {P : Program} {W : World} {x : String × DataW Unit} {r : List (String × DataW Unit)} (h : laidMet P (x :: r) W) : laidMet P r W := by
  obtain ⟨ps, ⟨g, t, cs, fuel, p, q, _, _, _, _, hr, rfl⟩, hn, hc⟩ := h
  refine ⟨q, hr, ?_, fun b off hm => hc b off (by simp [hm])⟩
  exact (List.nodup_append.1 hn).2.1
theorem tab_of_list3 {W : World} {x0 : String × DataW Unit} {r : List (String × DataW Unit)} (h : laidMet Tryd.prog (x0 :: ("caliper/desc.rows", Rows.laid_caliper_desc_rows) :: r) W) : Tab W :=
  tab_of_laid (laid_tl3 h)
theorem Tryd.cellsAsk3 : Tryd.prog.cellsOf 3 = 1 := by kernel_rfl
theorem Tryd.cells24 : Tryd.prog.cellsOf 24 = 2 := by kernel_rfl
theorem Tryd.rec24 : Tryd.prog.readableRec 24 = true := by kernel_rfl
theorem Tryd.row24 : (24 : TypeId) < Tryd.prog.types.size := of_decide_eq_true (by kernel_rfl)
section
variable {H : Type} {enc : TypeId × Value → H} {W : World} {r : Reach} {base b : Nat} {sp : Nat → Bool} {held : Bool} {v : Value} {d : DataW H} {p : List MemPlace}
theorem open_ask (hok : Value.okWide Tryd.prog W r base 24 v) (h : DataW.Trod enc Tryd.prog W b sp held 24 v d p) : ∃ x y : Int, (-9223372036854775808 ≤ x ∧ x ≤ 9223372036854775807) ∧ (-9223372036854775808 ≤ y ∧ y ≤ 9223372036854775807) ∧ v = .agg #[.int .i64 x, .int .i64 y] ∧ p = [] := by
  obtain ⟨cs, rfl, hcs⟩ := okWide_struct Tryd.underlying24 hok
  rw [Tryd.cells24] at hcs
  obtain ⟨fuel, hf⟩ := h
  obtain ⟨xs, n, _, hx, hl, hlen, hfi⟩ := DataW.trod_struct Tryd.underlying24 hf
  have g0 : DataW.trod enc Tryd.prog W b sp held n 3 (((Value.agg cs).cells.toList.drop 0).take (Tryd.prog.cellsOf 3)) = xs[0]? := hfi 0 _ rfl
  have g1 : DataW.trod enc Tryd.prog W b sp held n 3 (((Value.agg cs).cells.toList.drop 1).take (Tryd.prog.cellsOf 3)) = xs[1]? := hfi 1 _ rfl
  match xs, hlen with
  | [y0, y1], _ =>
    obtain ⟨l0, rfl⟩ : ∃ l : List Value, cs = l.toArray := ⟨cs.toList, by simp⟩
    match l0, hcs with
    | [v0, v1], _ =>
      rw [Tryd.cellsAsk3] at g0 g1
      obtain ⟨z0, e0, q0, w0⟩ := DataW.trod_int Tryd.underlying3 g0
      obtain ⟨z1, e1, q1, w1⟩ := DataW.trod_int Tryd.underlying3 g1
      simp [Value.cells] at e0 e1
      subst e0 e1
      refine ⟨z0, z1, bounds_i64 w0, bounds_i64 w1, rfl, ?_⟩
      have hp := congrArg Prod.snd hx
      simp only [List.flatMap_cons, List.flatMap_nil] at hp
      rw [show p = _ from hp]
      rw [q0, q1]
      rfl
end
end Go.Proofs.YtmommdhnogogdaaDoor

set_option maxRecDepth 20000
namespace Go.Proofs.YtmommdhnogogdaaDoor
open Go.ChangeShapes Go.WideShapes Go.ChangeAt Go.RowKit

theorem Tryd.rec22 : Tryd.prog.readableRec 22 = true := by kernel_rfl
theorem Tryd.row22 : (22 : TypeId) < Tryd.prog.types.size := of_decide_eq_true (by kernel_rfl)
section
variable {H : Type} {enc : TypeId × Value → H} {W : World} {r : Reach} {base : Nat} {v : Value} {d : DataW H} {p : List MemPlace}
def lenW (zs : List Int) (len i : Nat) : Int := if i < len then zs.getD i 0 else 0
theorem open_nat (hok : Value.okWide Tryd.prog W r base 22 v) (h : DataW.Trod enc Tryd.prog W 0 (fun _ => true) true 22 v d p) : ∃ a n c x, v = .slice a n c ∧ Num W a n c x := by
  obtain ⟨a0, len0, cap0, rfl⟩ := okWide_slice Tryd.underlying22 hok
  obtain ⟨fuel, hf⟩ := h
  rcases open_ints Tryd.underlying22 Tryd.underlying26 Tryd.cells26 hf with ⟨h1, _⟩ | ⟨a, len, cap, zs, h1, hb, hl, hm, hz, hx, hc, hw⟩
  · cases (List.cons.inj (show [Value.slice a0 len0 cap0] = [.slice none 0 0] from h1)).1
    exact ⟨none, 0, 0, fun _ => 0, rfl, Nat.le_refl _, by unfold maxLen; omega, fun _ => (by decide : (0 : Int) ≤ 0 ∧ (0 : Int) ≤ 18446744073709551615), fun _ _ => rfl, Or.inl ⟨rfl, rfl⟩⟩
  · cases (List.cons.inj (show [Value.slice a0 len0 cap0] = [.slice (some a) len cap] from h1)).1
    simp only [if_true] at hz
    have hh : a.spot = none ∧ a.block < W.heap.size := by
      simp only [Value.okWide, Tryd.underlying22, Cell.okWide, Cell.ok] at hok
      obtain ⟨_, _, hh⟩ := hok
      obtain ⟨_, h2, row, cells, h3, _⟩ := hh
      refine ⟨h2, ?_⟩
      rcases Nat.lt_or_ge a.block W.heap.size with h' | h'
      · exact h'
      · unfold World.shape? at h3; rw [Array.getElem?_eq_none h'] at h3; cases h3
    obtain ⟨b, off, spot⟩ := a
    obtain ⟨h2, h3⟩ := hh
    simp only at h2 h3
    subst h2
    refine ⟨some ⟨b, off, none⟩, len0, cap0, lenW zs len0, rfl, hl, hm, ?_, fun i hi => if_neg (by omega), Or.inr ⟨b, off, rfl, h3, fun i hi => ?_⟩⟩
    · intro i
      unfold lenW
      split
      · have := range_u64 hw i
        simpa [List.getD] using this
      · decide
    · have := hc i (by omega)
      rw [show (⟨b, off, none⟩ : Addr).add i = ⟨b, off + i, none⟩ by simp [Addr.add]] at this
      rw [this]; unfold lenW; rw [if_pos hi]
end
end Go.Proofs.YtmommdhnogogdaaDoor

namespace Go.Proofs.YtmommdhnogogdaaDoor
open Go.RowKit
theorem D8.other {g h : Nat} {cs : Array Value} {vs : List Value} {w : World} (hD : D8 h cs w) (hne : g ≠ h) : D8 h cs (w.setCells g 0 vs) := by
  refine ⟨Nat.lt_of_lt_of_le hD.1 (below_cellsD (n := 0) (Nat.zero_le _) _ _ _ (Below.refl 0 w)).size, hD.2.1, fun i hi => ?_, fun i => ?_⟩
  · rw [World.cell?_setCells_out g vs 0 w ⟨h, i, none⟩ (fun e => absurd e.symm hne)]
    exact hD.2.2.1 i hi
  · rw [World.frozen?_setCells]; exact hD.2.2.2 i
/-- a datum's cells from an offset on -/
def D8at (g o : Nat) (c : Int) (s b : Bool) (x : Int) (k : Nat) (w : World) : Prop := ∀ i, i < 8 → w.cell? ⟨g, o + i, none⟩ = (dvc c s b x k)[i]?
attribute [local irreducible] W4 Nt NT
section
variable {a : Act} {w : World} {K : Act → World → Prop} {Q : Exit → Act → World → Prop} {d p q : Nat} {ty : TypeId} {pos : String} {after : Array Edge} {gd : Option (Nat × Bool)}
theorem od_ia4 {g : Nat} (h1 : slot a p = .pointer (some ⟨g, 0, none⟩)) (hK : K (a.put (some d) (.pointer (some ⟨g, 32, none⟩))) w) : Oper.wp Tryd.prog { dst := some d, op := Op.indexAddr 37 (Operand.tmp p) (Operand.const (.int .i64 4)), type := ty, pos := pos, after := after, guard := gd } a w K Q := by
  unfold slot at h1
  simp [go_sem, h1]
  exact hK
theorem od_ia3 {g : Nat} (h1 : slot a p = .pointer (some ⟨g, 0, none⟩)) (hK : K (a.put (some d) (.pointer (some ⟨g, 24, none⟩))) w) : Oper.wp Tryd.prog { dst := some d, op := Op.indexAddr 37 (Operand.tmp p) (Operand.const (.int .i64 3)), type := ty, pos := pos, after := after, guard := gd } a w K Q := by
  unfold slot at h1
  simp [go_sem, h1]
  exact hK
theorem od_ldD {g o : Nat} {c x : Int} {s b : Bool} {k : Nat} (h1 : slot a p = .pointer (some ⟨g, o, none⟩)) (h2 : D8at g o c s b x k w) (hK : K (a.put (some d) (DV c s b x k)) w) : Oper.wp Tryd.prog { dst := some d, op := Op.load 30 (Operand.tmp p), type := ty, pos := pos, after := after, guard := gd } a w K Q := by
  have e : Tryd.prog.underlying 30 = (Tryd.prog.underlying 30) := rfl
  obtain ⟨td, hu, hr⟩ : ∃ td, Tryd.prog.underlying 30 = some td ∧ td.isRow = true := ⟨_, Tryd.underlying30, rfl⟩
  refine wp_load_mid 30 (.tmp p) rfl g o (by unfold slot at h1; simp [go_sem, h1]) (dvc c s b x k).toList td (fun j v hv => ?_) hu hr (by kernel_rfl) hK
  have hj : j < 8 := by
    rcases Nat.lt_or_ge j 8 with q | q
    · exact q
    · rw [List.getElem?_eq_none (by simpa using q)] at hv; cases hv
  rw [h2 j hj]
  simpa using hv
end
noncomputable def opsS14 : List Oper := (Tryd.f4.body.bind (findR 14)).getD []
def slotsS14 : List Nat := [66, 67, 68, 69, 17, 18, 100]
/-- what stands while the statement is under way -/
def M14 (ws : World) (cv : Array Value) (L : Nat → Prop) (f : Nat → Value) (w : World) : Prop :=
  Below ws.heap.size ws w ∧ (L 4 → ∃ g cs, f 17 = .pointer (some ⟨g, 0, none⟩) ∧ ws.heap.size ≤ g ∧ D8 g cs w ∧ (L 6 → cs = cv)) ∧ (L 5 → ∃ h cs, f 18 = .pointer (some ⟨h, 0, none⟩) ∧ ws.heap.size ≤ h ∧ D8 h cs w) ∧ (L 4 → L 5 → f 17 ≠ f 18)
theorem M14.step {ws w : World} {cv : Array Value} {k t : Nat} {L : Nat → Prop} {f : Nat → Value} {v : Value} (h : M14 ws cv L f w) (h1 : t ≠ 17) (h2 : t ≠ 18) (h3 : k ≠ 4) (h4 : k ≠ 5) (h5 : k ≠ 6) : M14 ws cv (fun j => L j ∨ j = k) (fun u => if some t = some u then v else f u) w := by
  obtain ⟨a1, a2, a3, a4⟩ := h
  have e17 : (if some t = some 17 then v else f 17) = f 17 := if_neg (fun e => h1 (Option.some.inj e))
  have e18 : (if some t = some 18 then v else f 18) = f 18 := if_neg (fun e => h2 (Option.some.inj e))
  refine ⟨a1, fun h => ?_, fun h => ?_, fun h h' => ?_⟩
  · obtain ⟨g, cs, b1, b2, b3, b4⟩ := a2 (h.resolve_right (fun e => h3 e.symm))
    exact ⟨g, cs, e17.trans b1, b2, b3, fun h => b4 (h.resolve_right (fun e => h5 e.symm))⟩
  · obtain ⟨g, cs, b1, b2, b3⟩ := a3 (h.resolve_right (fun e => h4 e.symm))
    exact ⟨g, cs, e18.trans b1, b2, b3⟩
  · show (if some t = some 17 then v else f 17) ≠ (if some t = some 18 then v else f 18)
    rw [e17, e18]
    exact a4 (h.resolve_right (fun e => h3 e.symm)) (h'.resolve_right (fun e => h4 e.symm))
set_option maxHeartbeats 2000000 in
theorem regS14 {h11 : Nat} {c4 x4 c3 x3 : Int} {s4 b4 s3 b3 : Bool} {k4 k3 : Nat} {a0 : Act} {ws : World} {Q : Exit → Act → World → Prop} (hs : a0.tmps.size = 133) (g11 : slot a0 11 = .pointer (some ⟨h11, 0, none⟩)) (hlt : h11 < ws.heap.size)
    (q4 : D8at h11 32 c4 s4 b4 x4 k4 ws) (q3 : D8at h11 24 c3 s3 b3 x3 k3 ws)
    (hQ : ∀ (a : Act) (w : World) (g h : Nat), slot a 17 = .pointer (some ⟨g, 0, none⟩) → slot a 18 = .pointer (some ⟨h, 0, none⟩) → g ≠ h → ws.heap.size ≤ g → ws.heap.size ≤ h → D8 g (dvc c4 s4 b4 x4 k4) w → D8 h (dvc c3 s3 b3 x3 k3) w → a.tmps.size = 133 → a.defers = a0.defers → (∀ t, (∀ i, i < 7 → slotsS14.getD i 0 ≠ t) → slot a t = slot a0 t) → Below ws.heap.size ws w → Q .normal a w) :
    (Code.region 14 opsS14.toArray true).wp Tryd.prog Q a0 ws := by
  refine wp_region_memg 7 133 slotsS14 [iW (.pointer (some ⟨h11, 32, none⟩)), iW (DV c4 s4 b4 x4 k4), iW (.pointer (some ⟨h11, 24, none⟩)), iW (DV c3 s3 b3 x3 k3), (fun _ _ => True), (fun _ _ => True), (fun _ _ => True)] (fun _ _ => True) (M14 ws (dvc c4 s4 b4 x4 k4)) [] [] (by kernel_rfl) (by kernel_rfl) (by kernel_rfl) (by kernel_rfl) hs ?_ (fun _ => trivial) ?_ ?_ ⟨(Below.refl _ _).drew, fun h => h.elim, fun h => h.elim, fun h _ => h.elim⟩ ?_ ?_ ?_
  · intro j c hj hc
    cases hc
  · intro p hp
    simp only [List.mem_cons, List.not_mem_nil, or_false] at hp
    rcases hp with rfl | rfl | rfl | rfl | rfl | rfl | rfl
    all_goals exact fun _ _ _ h _ => h
  · intro i hi hG
    cases hG
  · intro L i o a w hi ho hG
    cases hG
  · intro L i o a w hi ho hG hL hcl he hM hF hv
    have f11 : slot a 11 = .pointer (some ⟨h11, 0, none⟩) := (hF 11 (by decide)).trans g11
    have hB := hM.1
    have k4' : D8at h11 32 c4 s4 b4 x4 k4 w := fun i hi => (hB.cell (p := ⟨h11, 32 + i, none⟩) hlt).trans (q4 i hi)
    have k3' : D8at h11 24 c3 s3 b3 x3 k3 w := fun i hi => (hB.cell (p := ⟨h11, 24 + i, none⟩) hlt).trans (q3 i hi)
    have hor : i = 0 ∨ i = 1 ∨ i = 2 ∨ i = 3 ∨ i = 4 ∨ i = 5 ∨ i = 6 := by omega
    rcases hor with rfl | rfl | rfl | rfl | rfl | rfl | rfl
    · obtain rfl := Option.some.inj (show opsS14[0]? = some o from ho)
      exact od_ia4 f11 ⟨_, rfl, rfl, trivial, hM.step (by decide) (by decide) (by decide) (by decide) (by decide)⟩
    · obtain rfl := Option.some.inj (show opsS14[1]? = some o from ho)
      exact od_ldD (hv 0 (by decide) rfl (he ⟨0, .data⟩ (by simp) rfl) : slot a 66 = .pointer (some ⟨h11, 32, none⟩)) k4' ⟨_, rfl, rfl, trivial, hM.step (by decide) (by decide) (by decide) (by decide) (by decide)⟩
    · obtain rfl := Option.some.inj (show opsS14[2]? = some o from ho)
      exact od_ia3 f11 ⟨_, rfl, rfl, trivial, hM.step (by decide) (by decide) (by decide) (by decide) (by decide)⟩
    · obtain rfl := Option.some.inj (show opsS14[3]? = some o from ho)
      exact od_ldD (hv 2 (by decide) rfl (he ⟨2, .data⟩ (by simp) rfl) : slot a 68 = .pointer (some ⟨h11, 24, none⟩)) k3' ⟨_, rfl, rfl, trivial, hM.step (by decide) (by decide) (by decide) (by decide) (by decide)⟩
    · have hL6 : ¬ L 6 := fun h => hL (hcl 6 _ (show opsS14[6]? = some _ from rfl) h ⟨4, .data⟩ (by simp) rfl)
      obtain rfl := Option.some.inj (show opsS14[4]? = some o from ho)
      have hb := below1 w (.cells zd 30)
      obtain ⟨a1, a2, a3, a4⟩ := hM
      refine od_alc ⟨_, rfl, trivial, trivial, bnx hB hb, fun _ => ⟨_, zd, rfl, hB.size, D8.new w, fun h => absurd (h.resolve_right (by decide)) hL6⟩, fun h5 => ?_, fun _ h5 => ?_⟩
      · obtain ⟨h, cs, b1, b2, b3⟩ := a3 (h5.resolve_right (by decide))
        exact ⟨h, cs, b1, b2, b3.next hb⟩
      · obtain ⟨h, cs, b1, b2, b3⟩ := a3 (h5.resolve_right (by decide))
        show Value.pointer (some ⟨w.heap.size, 0, none⟩) ≠ slot a 18
        rw [b1]
        have := b3.1
        exact ptr_ne (by omega)
    · obtain rfl := Option.some.inj (show opsS14[5]? = some o from ho)
      have hb := below1 w (.cells zd 30)
      obtain ⟨a1, a2, a3, a4⟩ := hM
      refine od_alc ⟨_, rfl, trivial, trivial, bnx hB hb, fun h4 => ?_, fun _ => ⟨_, zd, rfl, hB.size, D8.new w⟩, fun h4 _ => ?_⟩
      · obtain ⟨g, cs, b1, b2, b3, b4⟩ := a2 (h4.resolve_right (by decide))
        exact ⟨g, cs, b1, b2, b3.next hb, fun h => b4 (h.resolve_right (by decide))⟩
      · obtain ⟨g, cs, b1, b2, b3, b4⟩ := a2 (h4.resolve_right (by decide))
        show slot a 17 ≠ Value.pointer (some ⟨w.heap.size, 0, none⟩)
        rw [b1]
        have := b3.1
        exact ptr_ne (by omega)
    · obtain rfl := Option.some.inj (show opsS14[6]? = some o from ho)
      obtain ⟨a1, a2, a3, a4⟩ := hM
      have l4 := he ⟨4, .data⟩ (by simp) rfl
      obtain ⟨g, cs, y1, y2, y3, y4⟩ := a2 l4
      refine od_st y1 (hv 1 (by decide) rfl (he ⟨1, .data⟩ (by simp) rfl) : slot a 67 = DV c4 s4 b4 x4 k4) y3 ⟨.bool false, rfl, trivial, trivial, below_cellsD y2 _ _ _ hB, fun _ => ⟨g, _, y1, y2, y3.put rfl, fun _ => rfl⟩, fun h5 => ?_, fun _ h5 => ?_⟩
      · obtain ⟨h, ds, d1, d2, d3⟩ := a3 (h5.resolve_right (by decide))
        refine ⟨h, ds, d1, d2, d3.other fun e => ?_⟩
        have := a4 l4 (h5.resolve_right (by decide))
        rw [y1, d1, e] at this
        exact this rfl
      · exact a4 l4 (h5.resolve_right (by decide))
  · intro L a w hL hM hsz hdf hF hv
    obtain ⟨hB, a2, a3, a4⟩ := hM
    obtain ⟨g, cs, e17, hg, hD1, hX⟩ := a2 (hL 4 (by decide))
    obtain ⟨h, ds, e18, hh, hD2⟩ := a3 (hL 5 (by decide))
    obtain rfl := hX (hL 6 (by decide))
    have hne : g ≠ h := fun e => a4 (hL 4 (by decide)) (hL 5 (by decide)) (by rw [e17, e18, e])
    refine BigFrame.wpList_want rfl fun K hK => od_st e18 (hv 3 (by decide) rfl : slot a 69 = DV c3 s3 b3 x3 k3) hD2 (hK _ _ ?_)
    clear K hK
    exact hQ _ _ g h e17 e18 hne hg hh (hD1.other (Ne.symm hne)) (hD2.put rfl) hsz hdf hF (below_cellsD hh _ _ _ hB)
end Go.Proofs.YtmommdhnogogdaaDoor

namespace Go.Proofs.YtmommdhnogogdaaDoor
open Go.RowKit
/-- five answers: all one, or two sides -/
def Five (s : Bool) (V : Int → Dat) (F : Int → Int) : Prop :=
  (∀ d, knB d → F d = 0 ∧ V d = V 0) ∨ ((∀ d, knB d → 8 ≤ F d ∧ F d ≤ 12) ∧ V (if s then 3 else 4) ≠ V (if s then 4 else 3) ∧ V 2 = V (if s then 3 else 4) ∧ (V 0 = V (if s then 3 else 4) ∨ V 0 = V (if s then 4 else 3)) ∧ (V 1 = V (if s then 3 else 4) ∨ V 1 = V (if s then 4 else 3)))
theorem dk_five {f : DF} (hf : f.ok) {s : Bool} {N D : Nat} {E want : Int} (hD : 0 < D) (h : TnE N D E) :
    Five s (fun d => dkD f d s N D E want) (fun d => dkF f d s N D E) := by
  unfold Five
  dsimp only
  cases hX : dkX f N D E
  · obtain ⟨lo, hi, a1, a2, a3, a4, a5, a6, a7⟩ := dk_sides (want := want) hf hD h hX (s := s)
    right
    refine ⟨fun d _ => ?_, by rw [a2, a3]; exact a1, by rw [a4, a2], by rw [a2, a3]; exact a5, by rw [a2, a3]; exact a6⟩
    rcases dkF_8 f d s N D E with q | q
    · exact absurd (a7 d) (by rw [q]; decide)
    · exact q
  · have hz : dkA N (dkQ f E) % dkZ D (dkQ f E) = 0 := by unfold dkX at hX; exact of_decide_eq_true hX
    have hZ := dkZ_pos hD (dkQ f E)
    have hC : ∀ d, dkC0 f d s N D E = dkA N (dkQ f E) / dkZ D (dkQ f E) := fun d => by
      unfold dkC0
      have e : dkA N (dkQ f E) = dkZ D (dkQ f E) * (dkA N (dkQ f E) / dkZ D (dkQ f E)) := by
        have := Nat.div_add_mod (dkA N (dkQ f E)) (dkZ D (dkQ f E)); omega
      conv => lhs; rw [e]
      exact whC_exact d s hZ _
    have hE : ∀ d, dkE f d s N D E = dkE f 0 s N D E := fun d => by unfold dkE; rw [hC d, hC 0]
    have hCc : ∀ d, dkC f d s N D E = dkC f 0 s N D E := fun d => by unfold dkC; rw [hC d, hC 0]
    by_cases hm : f.m < dkE f 0 s N D E
    · right
      have hF : ∀ d, dkF f d s N D E = 10 := fun d => by unfold dkF; rw [hE d, if_pos hm]
      have hV : ∀ d, dkD f d s N D E want = if inB d s then ⟨2, s, false, 0, 0⟩ else ⟨1, s, false, f.m, 10 ^ (3 * f.j + 1) - 1⟩ := fun d => by unfold dkD; rw [hE d, if_pos hm]
      have il : inB (if s then 3 else 4) s = false := by cases s <;> rfl
      have ih : inB (if s then 4 else 3) s = true := by cases s <;> rfl
      have i0 : inB 0 s = true := by cases s <;> rfl
      have i1 : inB 1 s = true := by cases s <;> rfl
      have i2 : inB 2 s = false := by cases s <;> rfl
      refine ⟨fun d _ => by rw [hF d]; exact ⟨by decide, by decide⟩, ?_, ?_, Or.inr ?_, Or.inr ?_⟩
      · rw [hV, hV, il, ih]
        intro e
        exact absurd (show (1 : Int) = 2 from congrArg Dat.c e) (by decide)
      · rw [hV, hV, il, i2]
      · rw [hV, hV, ih, i0]
      · rw [hV, hV, ih, i1]
    · left
      intro d _
      refine ⟨?_, ?_⟩
      · show dkF f d s N D E = 0
        unfold dkF; rw [hE d, if_neg hm, hX]; rfl
      · show dkD f d s N D E want = dkD f 0 s N D E want
        unfold dkD dkM
        rw [hE d, hCc d, if_neg hm, if_neg hm]
theorem rq_five {n x : Int} {s : Bool} {N D : Nat} (hn : decN n) (hD : D ≠ 0) (bN : bl N ≤ 25600) (bD : bl D ≤ 25600) :
    (∀ d, knB d → rqE n d N D = 0) ∧ ∃ (V : Int → Dat) (F : Int → Int), Five s V F ∧ ∀ d, knB d → rqD n d s N D x 0 = V d ∧ rqF n d s N D x = F d := by
  have hE : ∀ d, knB d → rqE n d N D = 0 := fun d hd => by unfold rqE; rw [if_pos ⟨hn, hd, hD⟩, if_neg (by omega)]
  refine ⟨hE, ?_⟩
  by_cases hN : N = 0
  · refine ⟨fun _ => ⟨1, s, false, min (max 0 (fD n).l) (fD n).m, 0⟩, fun _ => 0, Or.inl fun d _ => ⟨rfl, rfl⟩, fun d hd => ⟨?_, ?_⟩⟩
    · unfold rqD; rw [if_pos (hE d hd), if_pos hN]
    · unfold rqF; rw [if_pos (hE d hd), if_pos hN]
  · have hp : 0 < D * 10 ^ (-(clT x)).toNat := Nat.mul_pos (by omega) (ten_pos _)
    refine ⟨_, _, dk_five (s := s) (want := 0) (fD_ok n) hp (tnX_is (Nat.mul_pos (by omega : 0 < N) (ten_pos (clT x).toNat)) hp), fun d hd => ⟨?_, ?_⟩⟩
    · unfold rqD; rw [if_pos (hE d hd), if_neg hN]
    · unfold rqF; rw [if_pos (hE d hd), if_neg hN]
attribute [local irreducible] W4 Nt NT
section
variable (TT : World → Prop) (hTT : ∀ w w', TT w → Below w.heap.size w w' → TT w')
variable (n x : Int) (s : Bool) (an ad : Option Addr) (kn cn kd cd : Nat) (w : World) (hT : TT w)
  (c9 : ∀ W, TT W → Calls Tryd.prog 7 #[] W fun r w' => r = .returned (.bool true) ∧ Below W.heap.size W w')
include hTT hT c9
set_option maxHeartbeats 2000000 in
theorem dsid_l1 (h : (60 : Int) < (kn : Int)) : Calls Tryd.prog 4 #[.int .i64 n, .bool s, .slice an kn cn, .slice ad kd cd, .int .i64 x] w fun r w' => r = .returned (.bool true) ∧ Below w.heap.size w w' := by
  go_enter Tryd.func4, Tryd.ntmps4
  go_wp2_with (first
    | (go_at_call 7; refine (c9 _ hT).mono ?_; rintro r w1 ⟨rfl, hb1⟩; have hT1 := hTT _ _ hT hb1; clear hT; obtain ⟨hc1, hf1⟩ := bcell hb1; have hA1 := bnext (w0 := w) bgo hb1; have hs1 := hA1.size; clear hb1)
    | (go_at_call 7; refine (c9 _ hT1).mono ?_; rintro r w2 ⟨rfl, hb2⟩; obtain ⟨hc2, hf2⟩ := bcell hb2; have hA2 := bnext (w0 := w) bgo hb2; have hs2 := hA2.size; clear hb2))
  go_ret
  exact ⟨by first | rfl | simp, bgo⟩
set_option maxHeartbeats 2000000 in
theorem dsid_l2 (h1 : ¬ (60 : Int) < (kn : Int)) (h : (60 : Int) < (kd : Int)) : Calls Tryd.prog 4 #[.int .i64 n, .bool s, .slice an kn cn, .slice ad kd cd, .int .i64 x] w fun r w' => r = .returned (.bool true) ∧ Below w.heap.size w w' := by
  go_enter Tryd.func4, Tryd.ntmps4
  go_wp2_with (first
    | (go_at_call 7; refine (c9 _ hT).mono ?_; rintro r w1 ⟨rfl, hb1⟩; have hT1 := hTT _ _ hT hb1; clear hT; obtain ⟨hc1, hf1⟩ := bcell hb1; have hA1 := bnext (w0 := w) bgo hb1; have hs1 := hA1.size; clear hb1)
    | (go_at_call 7; refine (c9 _ hT1).mono ?_; rintro r w2 ⟨rfl, hb2⟩; obtain ⟨hc2, hf2⟩ := bcell hb2; have hA2 := bnext (w0 := w) bgo hb2; have hs2 := hA2.size; clear hb2))
  go_ret
  exact ⟨by first | rfl | simp, bgo⟩
set_option maxHeartbeats 2000000 in
theorem dsid_n (h1 : ¬ (60 : Int) < (kn : Int)) (h2 : ¬ (60 : Int) < (kd : Int)) (c5 : ∀ W, Calls Tryd.prog 10 #[.int .i64 n] W fun r w' => r = .returned (.bool false) ∧ W = w') : Calls Tryd.prog 4 #[.int .i64 n, .bool s, .slice an kn cn, .slice ad kd cd, .int .i64 x] w fun r w' => r = .returned (.bool true) ∧ Below w.heap.size w w' := by
  go_enter Tryd.func4, Tryd.ntmps4
  go_wp2_with (first
    | (go_at_call 7; refine (c9 _ hT).mono ?_; rintro r w1 ⟨rfl, hb1⟩; have hT1 := hTT _ _ hT hb1; clear hT; obtain ⟨hc1, hf1⟩ := bcell hb1; have hA1 := bnext (w0 := w) bgo hb1; have hs1 := hA1.size; clear hb1)
    | (go_at_call 10; refine (c5 _).mono ?_; rintro r w2 ⟨rfl, rfl⟩)
    | (go_at_call 7; refine (c9 _ hT1).mono ?_; rintro r w2 ⟨rfl, hb2⟩; obtain ⟨hc2, hf2⟩ := bcell hb2; have hA2 := bnext (w0 := w) bgo hb2; have hs2 := hA2.size; clear hb2))
  go_ret
  exact ⟨by first | rfl | simp, bgo⟩
set_option maxHeartbeats 2000000 in
theorem dsid_z (h1 : ¬ (60 : Int) < (kn : Int)) (h2 : ¬ (60 : Int) < (kd : Int)) (c5 : ∀ W, Calls Tryd.prog 10 #[.int .i64 n] W fun r w' => r = .returned (.bool true) ∧ W = w')
    (c6 : ∀ W, Below w.heap.size w W → Calls Tryd.prog 11 #[.slice ad kd cd] W fun r w' => r = .returned (.int .i64 0) ∧ W = w') : Calls Tryd.prog 4 #[.int .i64 n, .bool s, .slice an kn cn, .slice ad kd cd, .int .i64 x] w fun r w' => r = .returned (.bool true) ∧ Below w.heap.size w w' := by
  go_enter Tryd.func4, Tryd.ntmps4
  go_wp2_with (first
    | (go_at_call 7; refine (c9 _ hT).mono ?_; rintro r w1 ⟨rfl, hb1⟩; have hT1 := hTT _ _ hT hb1; clear hT; obtain ⟨hc1, hf1⟩ := bcell hb1; have hA1 := bnext (w0 := w) bgo hb1; have hs1 := hA1.size; clear hb1)
    | (go_at_call 10; refine (c5 _).mono ?_; rintro r w2 ⟨rfl, rfl⟩)
    | (go_at_call 11; refine (c6 _ bgo).mono ?_; rintro r w2 ⟨rfl, rfl⟩)
    | (go_at_call 7; refine (c9 _ hT1).mono ?_; rintro r w2 ⟨rfl, hb2⟩; obtain ⟨hc2, hf2⟩ := bcell hb2; have hA2 := bnext (w0 := w) bgo hb2; have hs2 := hA2.size; clear hb2))
  go_ret
  exact ⟨by first | rfl | simp, bgo⟩
end
end Go.Proofs.YtmommdhnogogdaaDoor
