/-
  Texts that the proof leans on, joined: Rm, Fj, Rc, Rh, Ta, Xm, Ya, Wa, Yi.
-/
import Derived.Test.YtpfnfaekgaipjaaDoorJ13
import Derived.Test.YtpfnfaekgaipjaaDoorJ14
import Derived.Test.YtpfnfaekgaipjaaDoorJ16
import Derived.Test.YtpfnfaekgaipjaaDoorJ9
import Derived.Test.YtpfnfaekgaipjaaDoorJ10
import Derived.Test.YtpfnfaekgaipjaaDoorJ11
import Derived.Test.YtpfnfaekgaipjaaDoorJ12
import Derived.Test.YtpfnfaekgaipjaaDoorJ7
import Derived.Test.YtpfnfaekgaipjaaDoorJ5
import Derived.Test.YtpfnfaekgaipjaaDoorJ2
import Derived.Test.YtpfnfaekgaipjaaDoorJ1
set_option linter.unusedVariables false
set_option linter.unusedSectionVars false
set_option linter.unusedSimpArgs false
set_option maxRecDepth 20000
namespace Go.Proofs.YtpfnfaekgaipjaaDoor

theorem sc1 (a : Nat) (n : Int) (K : Nat) (h : 0 ≤ (K : Int) + n) : a * 2 ^ n.toNat * 2 ^ K = a * 2 ^ ((K : Int) + n).toNat * 2 ^ (-n).toNat := by
  have : n.toNat + K = ((K : Int) + n).toNat + (-n).toNat := by omega
  rw [Nat.mul_assoc, ← Nat.pow_add, Nat.mul_assoc, ← Nat.pow_add, this]
/-- a times 2^n against b, all exponents raised by K -/
theorem cmp_sc (a b : Nat) (n : Int) (K : Nat) (h : 0 ≤ (K : Int) + n) : a * 2 ^ n.toNat < b * 2 ^ (-n).toNat ↔ a * 2 ^ ((K : Int) + n).toNat < b * 2 ^ K := by
  have e := sc1 a n K h
  have p := Nat.two_pow_pos K
  have p2 := Nat.two_pow_pos (-n).toNat
  constructor
  · intro hlt
    have := Nat.mul_lt_mul_of_pos_right hlt p
    rw [e, Nat.mul_right_comm b] at this
    exact Nat.lt_of_mul_lt_mul_right this
  · intro hlt
    have := Nat.mul_lt_mul_of_pos_right hlt p2
    rw [← e, Nat.mul_right_comm b] at this
    exact Nat.lt_of_mul_lt_mul_right this
theorem bl_bd {V : Nat} (h : V ≠ 0) : 2 ^ (bl V - 1) ≤ V ∧ V < 2 ^ bl V ∧ 1 ≤ bl V := by
  have h0 : bl V ≠ 0 := fun e => h (bl_zero.1 e)
  exact ⟨bl_ge.1 (by omega), bl_le.1 (Nat.le_refl _), by omega⟩
theorem ld_bd {N D : Nat} (hN : N ≠ 0) (hD : D ≠ 0) (K : Nat) (hK : (bl D : Int) + 1 ≤ K) :
    D * 2 ^ ((K : Int) + ld N D).toNat ≤ N * 2 ^ K ∧ N * 2 ^ K < D * 2 ^ ((K : Int) + ld N D + 1).toNat := by
  obtain ⟨n1, n2, n3⟩ := bl_bd hN
  obtain ⟨d1, d2, d3⟩ := bl_bd hD
  have pK := Nat.two_pow_pos K
  obtain ⟨K', hK'⟩ : ∃ K' : Nat, (K' : Int) = (K : Int) + ((bl N : Int) - bl D) := ⟨((K : Int) + ((bl N : Int) - bl D)).toNat, by omega⟩
  have key := cmp_sc N D (-((bl N : Int) - bl D)) K' (by omega)
  rw [Int.neg_neg, show ((K' : Int) + -((bl N : Int) - bl D)).toNat = K by omega] at key
  unfold ld
  dsimp only
  by_cases hc : N * 2 ^ (-((bl N : Int) - bl D)).toNat < D * 2 ^ ((bl N : Int) - bl D).toNat
  · rw [if_pos hc]
    have h1 := key.1 hc
    refine ⟨?_, ?_⟩
    · rw [show ((K : Int) + ((bl N : Int) - bl D - 1)).toNat = K' - 1 by omega]
      have a1 : D * 2 ^ (K' - 1) ≤ 2 ^ bl D * 2 ^ (K' - 1) := Nat.mul_le_mul_right _ (Nat.le_of_lt d2)
      have a2 : 2 ^ (bl N - 1) * 2 ^ K ≤ N * 2 ^ K := Nat.mul_le_mul_right _ n1
      rw [← Nat.pow_add] at a1 a2
      rw [show bl D + (K' - 1) = bl N - 1 + K by omega] at a1
      exact Nat.le_trans a1 a2
    · rw [show ((K : Int) + ((bl N : Int) - bl D - 1) + 1).toNat = K' by omega]
      exact h1
  · rw [if_neg hc]
    have h1 : D * 2 ^ K' ≤ N * 2 ^ K := Nat.le_of_not_lt fun h => hc (key.2 h)
    refine ⟨?_, ?_⟩
    · rw [show ((K : Int) + ((bl N : Int) - bl D)).toNat = K' by omega]
      exact h1
    · rw [show ((K : Int) + ((bl N : Int) - bl D) + 1).toNat = K' + 1 by omega]
      have a1 : N * 2 ^ K < 2 ^ bl N * 2 ^ K := Nat.mul_lt_mul_of_pos_right n2 pK
      have a2 : 2 ^ (bl D - 1) * 2 ^ (K' + 1) ≤ D * 2 ^ (K' + 1) := Nat.mul_le_mul_right _ d1
      rw [← Nat.pow_add] at a1 a2
      rw [show bl D - 1 + (K' + 1) = bl N + K by omega] at a2
      exact Nat.lt_of_lt_of_le a1 a2
theorem nrQ_lt {N D : Nat} (hN : N ≠ 0) (hD : D ≠ 0) {n : Int} {f : Nat} (h : ld N D + n ≤ f) : nrQ N D n < 2 ^ (f + 1) := by
  unfold nrQ
  apply Nat.div_lt_of_lt_mul
  obtain ⟨K, hK⟩ : ∃ K : Nat, K = bl D + 1 + n.natAbs := ⟨_, rfl⟩
  obtain ⟨K1, hK1⟩ : ∃ K1 : Nat, (K1 : Int) = (K : Int) + n := ⟨((K : Int) + n).toNat, by omega⟩
  have key := cmp_sc N (D * 2 ^ (f + 1)) n K (by omega)
  rw [show ((K : Int) + n).toNat = K1 by omega] at key
  have hb := (ld_bd hN hD K1 (by omega)).2
  have hle : D * 2 ^ ((K1 : Int) + ld N D + 1).toNat ≤ D * 2 ^ (f + 1) * 2 ^ K := by
    rw [Nat.mul_assoc, ← Nat.pow_add]
    exact Nat.mul_le_mul_left _ (Nat.pow_le_pow_right (by decide) (by omega))
  have := key.2 (Nat.lt_of_lt_of_le hb hle)
  rw [Nat.mul_right_comm] at this
  exact this
theorem nrQ_ge {N D : Nat} (hN : N ≠ 0) (hD : D ≠ 0) {n : Int} {f : Nat} (h : ld N D + n = f) : 2 ^ f ≤ nrQ N D n := by
  unfold nrQ
  have hpos : 0 < D * 2 ^ (-n).toNat := Nat.mul_pos (by omega) (Nat.two_pow_pos _)
  rw [Nat.le_div_iff_mul_le hpos]
  apply Nat.le_of_not_lt
  intro hlt
  obtain ⟨K, hK⟩ : ∃ K : Nat, K = bl D + 1 + n.natAbs := ⟨_, rfl⟩
  obtain ⟨K1, hK1⟩ : ∃ K1 : Nat, (K1 : Int) = (K : Int) + n := ⟨((K : Int) + n).toNat, by omega⟩
  have key := cmp_sc N (D * 2 ^ f) n K (by omega)
  rw [show ((K : Int) + n).toNat = K1 by omega] at key
  have hb := (ld_bd hN hD K1 (by omega)).1
  rw [show 2 ^ f * (D * 2 ^ (-n).toNat) = D * 2 ^ f * 2 ^ (-n).toNat by rw [← Nat.mul_assoc, Nat.mul_comm (2 ^ f) D]] at hlt
  have h2 := key.1 hlt
  rw [Nat.mul_assoc, ← Nat.pow_add, show f + K = ((K1 : Int) + ld N D).toNat by omega] at h2
  omega
end Go.Proofs.YtpfnfaekgaipjaaDoor

namespace Go.Proofs.YtpfnfaekgaipjaaDoor
open Go.RowKit

theorem finite_v (n : Int) (nm : ByteArray) (wd : Int) (f e : Nat) (l m : Int) (s : Bool) (x fl : Int) {K C : Nat} {v : Value} {w : World} (hT : Tab w) (h : Nz K C v w) (hC : C < 2 ^ 256) :
    Calls Tryd.prog 13 #[DI n nm wd f e l m, .bool s, v, .int .i64 x, .int .i64 fl] w fun r w' => r = .returned (.tuple #[A4 (pkV n ⟨1, s, false, x, C⟩), .int .i64 fl, .int .i64 (pkE n ⟨1, s, false, x, C⟩)]) ∧ Below w.heap.size w w' := by
  obtain ⟨a, k, cap, z, rfl, hk, hN, hv, hs⟩ := h
  have hk4 : k ≤ 4 := by
    have := (size_bl (m := 4) hN.2.2.1 hv).2 (bl_le.2 hC)
    omega
  have hv4 : val z 4 = (C : Int) := by rw [val_more hN.2.2.2.1 4 hk4, hv]
  have hz : ∀ i, i < 4 → z i = W4 C i := val_inj hN.2.2.1 (W4_words C) 4 (by rw [hv4, W4_val4 hC])
  have c56 := fun W hT => pack_any n ⟨1, s, false, x, C⟩ W hT hC
  have ed : (Dat.mk 1 s false x C).v = .agg #[.int .i64 1, .bool s, .bool false, .int .i64 x, .int .u64 (z 0), .int .u64 (z 1), .int .u64 (z 2), .int .u64 (z 3)] := by
    unfold Dat.v DV
    rw [hz 0 (by decide), hz 1 (by decide), hz 2 (by decide), hz 3 (by decide)]
  rw [ed] at c56
  have z0 := hN.2.2.2.1
  generalize pkV n ⟨1, s, false, x, C⟩ = R at *
  generalize pkE n ⟨1, s, false, x, C⟩ = E at *
  obtain ⟨n1, n2, n3, n4, n5⟩ := hN
  rcases n5 with ⟨rfl, rfl⟩ | ⟨b, off, rfl, hb, hc⟩
  · obtain rfl : k = 0 := by omega
    rw [z0 0 (by omega), z0 1 (by omega), z0 2 (by omega), z0 3 (by omega)] at c56
    exact fin_n n nm wd f e l m s x fl E R w hT c56
  · have : k = 0 ∨ k = 1 ∨ k = 2 ∨ k = 3 ∨ k = 4 := by omega
    rcases this with rfl | rfl | rfl | rfl | rfl
    · rw [z0 0 (by omega), z0 1 (by omega), z0 2 (by omega), z0 3 (by omega)] at c56
      exact fin_0 n nm wd f e l m s x fl E R w hT b off cap hb c56
    · rw [z0 1 (by omega), z0 2 (by omega), z0 3 (by omega)] at c56
      exact fin_1 n nm wd f e l m s x fl E R z w hT b off cap hb (hc 0 (by decide)) c56
    · rw [z0 2 (by omega), z0 3 (by omega)] at c56
      exact fin_2 n nm wd f e l m s x fl E R z w hT b off cap hb (hc 0 (by decide)) (hc 1 (by decide)) c56
    · rw [z0 3 (by omega)] at c56
      exact fin_3 n nm wd f e l m s x fl E R z w hT b off cap hb (hc 0 (by decide)) (hc 1 (by decide)) (hc 2 (by decide)) c56
    · exact fin_4 n nm wd f e l m s x fl E R z w hT b off cap hb (hc 0 (by decide)) (hc 1 (by decide)) (hc 2 (by decide)) (hc 3 (by decide)) c56
end Go.Proofs.YtpfnfaekgaipjaaDoor

namespace Go.Proofs.YtpfnfaekgaipjaaDoor
open Go.RowKit

/-- the exponent within reach, the unit's exponent, the coefficient, and both behind the carry -/
def rX (n : Int) (N D : Nat) (x : Int) : Int := wiZ (fN n) (leastN n) (mostN n) (ld N D) x
def rQ (n : Int) (N D : Nat) (x : Int) : Int := max (leastN n) (ld N D + rX n N D x - ((fN n : Int) + 1) + 1)
def rC (n d : Int) (s : Bool) (N D : Nat) (x : Int) : Nat := nrC d s N D (rX n N D x - rQ n N D x)
def rC' (n d : Int) (s : Bool) (N D : Nat) (x : Int) : Nat := if (fN n : Int) + 1 < (bl (rC n d s N D x) : Int) then rC n d s N D x / 2 else rC n d s N D x
def rQ' (n d : Int) (s : Bool) (N D : Nat) (x : Int) : Int := if (fN n : Int) + 1 < (bl (rC n d s N D x) : Int) then rQ n N D x + 1 else rQ n N D x
/-- the pattern and the flags -/
def rdV (n d : Int) (s : Bool) (N D : Nat) (x : Int) : Nat := if N = 0 then pkV n ⟨1, s, false, leastN n, 0⟩ else if mostN n < rQ' n d s N D x then (if inB d s then pkV n ⟨2, s, false, 0, 0⟩ else lgV n s) else pkV n ⟨1, s, false, rQ' n d s N D x, rC' n d s N D x⟩
def rdF (n d : Int) (s : Bool) (N D : Nat) (x : Int) : Int := if N = 0 then 0 else if mostN n < rQ' n d s N D x then 10 else if decide (nrR N D (rX n N D x - rQ n N D x) = 0) then 0 else if decide (ld N D + rX n N D x < (fN n : Int) + leastN n) then 12 else 8
theorem bin_more' {n : Int} (h : binN n) : numN n = n ∧ denseN n = false := by
  rcases bin_cases h with rfl | rfl | rfl | rfl | rfl | rfl <;> exact ⟨by decide, by decide⟩
theorem dof_bin {n : Int} (hb : binN n) (w : World) (hT : Tab w) : Calls Tryd.prog 23 #[.int .i64 n] w fun x w' => x = .returned (.tuple #[DI n (nameN n) (widthN n) (fN n) (eN n) (leastN n) (mostN n), .int .i64 0]) ∧ Below w.heap.size w w' := by
  obtain ⟨hok, hb2, hpr, hex, hwd, hpy⟩ := bin_fields hb
  obtain ⟨hnum, hden⟩ := bin_more' hb
  have c := ofv_any n w hT
  rw [show infoE n = 0 from if_pos hok, hnum, hb2, hpr, hex, hden, hpy] at c
  exact c
theorem nz_nil (w : World) : Nz 0 0 (.slice none 0 0) w :=
  ⟨none, 0, 0, fun _ => 0, rfl, Nat.le_refl _, ⟨Nat.le_refl _, by unfold maxLen; omega, fun i => ⟨Int.le_refl _, (by decide : (0 : Int) ≤ 18446744073709551615)⟩, fun _ _ => rfl, Or.inl ⟨rfl, rfl⟩⟩, rfl, rfl⟩
/-- the datum that comes out is the format's -/
theorem r_isD {n d : Int} {s : Bool} {N D : Nat} {x : Int} (hb : binN n) (hN : N ≠ 0) (hD : D ≠ 0) (ho : ¬ mostN n < rQ' n d s N D x) : isD (fN n) (leastN n) (mostN n) ⟨1, s, false, rQ' n d s N D x, rC' n d s N D x⟩ := by
  have hq : leastN n ≤ rQ n N D x := Int.le_max_left _ _
  have hq2 : ld N D + (rX n N D x - rQ n N D x) ≤ (fN n : Int) := by unfold rQ; omega
  have hlt := nrQ_lt hN hD hq2
  have hge : rQ n N D x ≠ leastN n → 2 ^ fN n ≤ nrQ N D (rX n N D x - rQ n N D x) := fun h => nrQ_ge hN hD (by unfold rQ at h ⊢; omega)
  have hC : rC n d s N D x = nrQ N D (rX n N D x - rQ n N D x) ∨ rC n d s N D x = nrQ N D (rX n N D x - rQ n N D x) + 1 := by
    unfold rC nrC
    cases nrF d s N D (rX n N D x - rQ n N D x)
    · exact Or.inl rfl
    · exact Or.inr rfl
  have hs : 2 ^ (fN n + 1) = 2 ^ fN n + 2 ^ fN n := by rw [Nat.pow_succ]; omega
  have hu : (fN n : Int) + 1 < (bl (rC n d s N D x) : Int) ↔ 2 ^ (fN n + 1) ≤ rC n d s N D x := by
    rw [← bl_ge]; omega
  unfold rQ' rC' at *
  by_cases h : (fN n : Int) + 1 < (bl (rC n d s N D x) : Int)
  · rw [if_pos h] at ho
    have h2 := hu.1 h
    have e : rC n d s N D x = 2 ^ (fN n + 1) := by omega
    rw [if_pos h, if_pos h]
    exact Or.inl ⟨rfl, rfl, by show rC n d s N D x / 2 < _; omega, by show leastN n ≤ rQ n N D x + 1; omega, by show rQ n N D x + 1 ≤ _; omega, Or.inl (by show 2 ^ fN n ≤ rC n d s N D x / 2; omega)⟩
  · rw [if_neg h] at ho
    have h2 := mt hu.2 h
    rw [if_neg h, if_neg h]
    refine Or.inl ⟨rfl, rfl, by show rC n d s N D x < _; omega, hq, by show rQ n N D x ≤ _; omega, ?_⟩
    by_cases h3 : rQ n N D x = leastN n
    · exact Or.inr h3
    · have := hge h3
      exact Or.inl (by show 2 ^ fN n ≤ rC n d s N D x; omega)
theorem wi_bd {n : Int} {L x : Int} (hb : binN n) (hL : -60000 ≤ L ∧ L ≤ 60000) : -300000 ≤ wiZ (fN n) (leastN n) (mostN n) L x ∧ wiZ (fN n) (leastN n) (mostN n) L x ≤ 300000 ∧ -100000 ≤ leastN n ∧ leastN n ≤ 100000 ∧ -100000 ≤ mostN n ∧ mostN n ≤ 100000 ∧ L + wiZ (fN n) (leastN n) (mostN n) L x ≤ 100000 ∧ -100000 ≤ L + wiZ (fN n) (leastN n) (mostN n) L x := by
  unfold wiZ
  rcases bin_cases hb with rfl | rfl | rfl | rfl | rfl | rfl
  all_goals
    simp [leastN, mostN, fN, precN]
    omega
theorem ld_ab {N D : Nat} (h1 : bl N ≤ 51200) (h2 : bl D ≤ 51200) : -60000 ≤ ld N D ∧ ld N D ≤ 60000 := by
  unfold ld
  dsimp only
  split <;> omega
theorem rnd_good (n d x : Int) (s : Bool) {N D : Nat} {vn vd : Value} {w : World} (hT : Tab w) (hn : Nt 2001 N vn w) (hd : Nt 2001 D vd w) (hb : binN n) (hk : knB d) (hD : D ≠ 0) (h1 : bl N ≤ 51200) (h2 : bl D ≤ 51200) :
    Calls Tryd.prog 7 #[.int .i64 n, .int .i64 d, .bool s, vn, vd, .int .i64 x] w fun r w' => r = .returned (.tuple #[A4 (rdV n d s N D x), .int .i64 (rdF n d s N D x), .int .i64 0]) ∧ Below w.heap.size w w' := by
  have hF := bin_fm hb
  have hf240 := hF.f240
  have c26 := fun W (hb' : Below w.heap.size w W) => nlen_v (by decide) (hn.next hb')
  have c26d := fun W (hb' : Below w.heap.size w W) => nlen_v (by decide) (hd.next hb')
  have hDb : (((bl D : Nat) : Int) == 0) = false := by
    have : bl D ≠ 0 := fun e => hD (bl_zero.1 e)
    rw [beq_eq_false_iff_ne]; omega
  have c25 : ∀ W, Below w.heap.size w W → Calls Tryd.prog 11 #[.int .i64 n, .int .i64 d, vn, vd] W fun r w' => r = .returned (.tuple #[DI n (nameN n) (widthN n) (fN n) (eN n) (leastN n) (mostN n), .int .i64 0]) ∧ Below W.heap.size W w' := fun W hW =>
    check_k n d _ _ _ _ _ _ N D vn vd W (hT.go hW) (fun W' h' => c26 W' (bnx hW h')) (fun W' h' => c26d W' (bnx hW h')) (decide_eq_true hk) hDb (by omega) (by omega) (fun W' hT' => dof_bin hb W' hT')
  unfold rdV rdF
  by_cases hz : N = 0
  · rw [if_pos hz, if_pos hz]
    have hp := pow_e hF.e2 hF.e15
    have hm := hF.m
    have hi : isD (fN n) (leastN n) (mostN n) ⟨1, s, false, leastN n, 0⟩ := Or.inl ⟨rfl, rfl, Nat.two_pow_pos _, Int.le_refl _, by show leastN n ≤ mostN n; omega, Or.inr rfl⟩
    have e : pkE n ⟨1, s, false, leastN n, 0⟩ = 0 := by unfold pkE; rw [if_pos hb, if_pos hi]
    refine binary_z n d x s vn vd w hT _ _ _ _ _ _ N _ _ c25 c26 (by rw [hz]; decide) fun W hT' => ?_
    have := finite_v n (nameN n) (widthN n) (fN n) (eN n) (leastN n) (mostN n) s (leastN n) 0 hT' (nz_nil W) (by decide)
    rw [e] at this
    exact this
  · rw [if_neg hz, if_neg hz]
    have hN0 : (((bl N : Nat) : Int) == 0) = false := by
      have : bl N ≠ 0 := fun e => hz (bl_zero.1 e)
      rw [beq_eq_false_iff_ne]; omega
    have hL := ld_ab h1 h2
    obtain ⟨w1, w2, w3, w4, w5, w6, w7, w8⟩ := wi_bd (x := x) hb hL
    have hq0 : rQ n N D x = max (leastN n) (ld N D + rX n N D x - ((fN n : Int) + 1) + 1) := rfl
    have c28 := fun W (hb' : Below w.heap.size w W) => leading_v (hn.next hb') (hd.next hb') h1 h2
    have c29 := fun W => within_any n (nameN n) (widthN n) (fN n) (eN n) (leastN n) (mostN n) (ld N D) x W (by omega) ⟨w3, w4⟩ ⟨w5, w6⟩ (by omega)
    have hX : rX n N D x = wiZ (fN n) (leastN n) (mostN n) (ld N D) x := rfl
    rw [← hX] at w1 w2 w7 w8
    have hbn : (bl N : Int) + (rX n N D x - rQ n N D x) ≤ 127000 ∧ (bl D : Int) - (rX n N D x - rQ n N D x) ≤ 127000 := by
      have hl2 : (bl N : Int) - bl D - 1 ≤ ld N D ∧ ld N D ≤ (bl N : Int) - bl D := by
        unfold ld; dsimp only; split <;> omega
      have hp := pow_e hF.e2 hF.e15
      have hm := hF.m
      have hr : leastN n - 2 - ld N D ≤ rX n N D x := by rw [hX]; unfold wiZ; omega
      rw [hq0]; omega
    have c30 : ∀ W k, k = rX n N D x - rQ n N D x → Below w.heap.size w W → Calls Tryd.prog 16 #[.int .i64 d, .bool s, vn, vd, .int .i64 k] W fun r w' => ∃ v, r = .returned (.tuple #[v, .bool (decide (nrR N D (rX n N D x - rQ n N D x) = 0))]) ∧ Nz 2003 (rC n d s N D x) v w' ∧ Below W.heap.size W w' := fun W k hk' hb' => by
      subst hk'
      exact nearby_v d _ s (hn.next hb') (hd.next hb') hD hbn.1 hbn.2 (by omega) (by omega)
    have hup : (fN n : Int) + 1 < (bl (rC n d s N D x) : Int) → rC' n d s N D x = rC n d s N D x / 2 ∧ rQ' n d s N D x = rQ n N D x + 1 := fun h => ⟨if_pos h, if_pos h⟩
    have hno : ¬ (fN n : Int) + 1 < (bl (rC n d s N D x) : Int) → rC' n d s N D x = rC n d s N D x ∧ rQ' n d s N D x = rQ n N D x := fun h => ⟨if_neg h, if_neg h⟩
    have c26c := fun W v (h : Nz 2003 (rC n d s N D x) v W) => nlen_v (by decide) h.nt
    have c31 := fun W v (h : Nz 2003 (rC n d s N D x) v W) => nshr_v (by decide) h.nt
    by_cases ho : mostN n < rQ' n d s N D x
    · rw [if_pos ho, if_pos ho]
      refine binary_o n d x s vn vd w hT _ _ _ _ _ _ N (rC n d s N D x) _ _ _ (ld N D) (rX n N D x) (rQ n N D x) _ c25 c26 (by omega) ⟨w3, w4⟩ ⟨w5, w6⟩ (by omega) ⟨w1, w2⟩ hq0 hN0 c28 c29 c30 c26c c31 _ _ hup hno ho ?_
      intro W hT'
      by_cases hi : inB d s = true
      · rw [if_pos hi]
        have hd2 : isD (fN n) (leastN n) (mostN n) ⟨2, s, false, 0, 0⟩ := Or.inr (Or.inl ⟨rfl, rfl, rfl, rfl⟩)
        have e : pkE n ⟨2, s, false, 0, 0⟩ = 0 := by unfold pkE; rw [if_pos hb, if_pos hd2]
        refine overflow_i n _ _ _ _ _ _ d s _ _ W hT' hi fun W' hT2 => ?_
        have := pack_any n ⟨2, s, false, 0, 0⟩ W' hT2 (by show 0 < 2 ^ 256; decide)
        rw [e] at this
        unfold Dat.v DV at this
        simp only [W4_zero] at this
        exact this
      · rw [if_neg hi]
        refine overflow_l n _ _ _ _ _ _ d s _ _ W hT' (by simpa using hi) fun W' hT2 => ?_
        have := largest_any n s W' hT2
        rw [show lgE n = 0 from if_pos hb] at this
        exact this
    · rw [if_neg ho, if_neg ho]
      have hi := r_isD (s := s) hb hz hD ho
      have e : pkE n ⟨1, s, false, rQ' n d s N D x, rC' n d s N D x⟩ = 0 := by unfold pkE; rw [if_pos hb, if_pos hi]
      have hC : rC' n d s N D x < 2 ^ 256 := by
        rcases hi with ⟨_, _, hk1, _⟩ | ⟨hc, _⟩ | ⟨hc, _⟩
        · exact Nat.lt_of_lt_of_le hk1 (Nat.pow_le_pow_right (by decide) (by omega))
        · exact absurd (show (1 : Int) = 2 from hc) (by decide)
        · exact absurd (show (1 : Int) = 3 from hc) (by decide)
      refine binary_f n d x s vn vd w hT _ _ _ _ _ _ N (rC n d s N D x) _ _ _ (ld N D) (rX n N D x) (rQ n N D x) _ c25 c26 (by omega) ⟨w3, w4⟩ ⟨w5, w6⟩ (by omega) ⟨w1, w2⟩ hq0 hN0 c28 c29 c30 c26c c31 _ _ hup hno ho 0 rfl ?_
      intro W v hT' hv
      have := finite_v n (nameN n) (widthN n) (fN n) (eN n) (leastN n) (mostN n) s (rQ' n d s N D x) (if decide (nrR N D (rX n N D x - rQ n N D x) = 0) then 0 else if decide (ld N D + rX n N D x < (fN n : Int) + leastN n) then 12 else 8) hT' hv hC
      rw [e] at this
      exact this
end Go.Proofs.YtpfnfaekgaipjaaDoor

namespace Go.Proofs.YtpfnfaekgaipjaaDoor
open Go.RowKit

theorem third_ld : ld 1 3 = -2 := by
  have e1 : bl 1 = 1 := bl_eq (by decide) (by decide)
  have e3 : bl 3 = 2 := bl_eq (by decide) (by decide)
  unfold ld
  rw [e1, e3]
  decide
theorem third_X : rX 3 1 3 0 = 0 := by unfold rX; rw [third_ld]; decide
theorem third_Q : rQ 3 1 3 0 = -25 := by unfold rQ; rw [third_ld, third_X]; decide
theorem third_C : rC 3 0 false 1 3 0 = 11184811 := by unfold rC; rw [third_X, third_Q]; decide
theorem third_bl : bl 11184811 = 24 := bl_eq (by decide) (by decide)
theorem third_V : rdV 3 0 false 1 3 0 = 1051372203 := by
  unfold rdV rQ' rC'
  rw [third_C, third_bl, third_Q]
  decide
theorem third_F : rdF 3 0 false 1 3 0 = 8 := by
  unfold rdF rQ'
  rw [third_C, third_bl, third_Q, third_X, third_ld]
  decide
theorem third_A : A4 1051372203 = .agg #[.int .u64 1051372203, .int .u64 0, .int .u64 0, .int .u64 0] := by
  unfold A4; rw [show W4 1051372203 0 = 1051372203 by decide, show W4 1051372203 1 = 0 by decide, show W4 1051372203 2 = 0 by decide, show W4 1051372203 3 = 0 by decide]
theorem nt_one2 {W : World} {g V : Nat} {vi : Int} {o : Obj} (hg : g = W.heap.size) (hv : vi = (V : Int)) (hb : V < 18446744073709551616) : Nt 2001 V (.slice (some ⟨g, 0, none⟩) 1 1) ((W.alloc (.cells #[.int .u64 vi] 26)).alloc o) :=
  ((nt_one hg hv hb).more (by decide)).next ((Below.refl _ _).alloc (Nat.le_refl _) _)
attribute [local irreducible] W4 Nt
end Go.Proofs.YtpfnfaekgaipjaaDoor

namespace Go.Proofs.YtpfnfaekgaipjaaDoor
open Go.RowKit

def tpN (n : Int) : Nat := (2 ^ eN n - 1) * 2 ^ fN n
def sgN (n : Int) (s : Bool) : Nat := if s then 2 ^ (fN n + eN n) else 0
/-- rounded down, and rounded -/
def rB (n : Int) (N D : Nat) (x : Int) : Nat := (rQ n N D x - leastN n).toNat * 2 ^ fN n + nrQ N D (rX n N D x - rQ n N D x)
def rP (n d : Int) (s : Bool) (N D : Nat) (x : Int) : Nat := (rQ n N D x - leastN n).toNat * 2 ^ fN n + rC n d s N D x
def capV (T : Nat) (i : Bool) (p : Nat) : Nat := if T ≤ p then (if i then T else T - 1) else p
theorem rP_eq (n d : Int) (s : Bool) (N D : Nat) (x : Int) : rP n d s N D x = rB n N D x + if nrF d s N D (rX n N D x - rQ n N D x) then 1 else 0 := by
  unfold rP rB rC nrC
  cases nrF d s N D (rX n N D x - rQ n N D x)
  · rfl
  · simp only [if_true]; omega
/-- what the coefficient is -/
theorem r_coef {n : Int} (d : Int) (s : Bool) {N D : Nat} (x : Int) (hb : binN n) (hN : N ≠ 0) (hD : D ≠ 0) :
    leastN n ≤ rQ n N D x ∧ rC n d s N D x ≤ 2 ^ (fN n + 1) ∧ (rQ n N D x ≠ leastN n → 2 ^ fN n ≤ rC n d s N D x) ∧ ((fN n : Int) + 1 < (bl (rC n d s N D x) : Int) ↔ 2 ^ (fN n + 1) ≤ rC n d s N D x) := by
  have hq : leastN n ≤ rQ n N D x := Int.le_max_left _ _
  have hq2 : ld N D + (rX n N D x - rQ n N D x) ≤ (fN n : Int) := by unfold rQ; omega
  have hlt := nrQ_lt hN hD hq2
  have hge : rQ n N D x ≠ leastN n → 2 ^ fN n ≤ nrQ N D (rX n N D x - rQ n N D x) := fun h => nrQ_ge hN hD (by unfold rQ at h ⊢; omega)
  have hC : rC n d s N D x = nrQ N D (rX n N D x - rQ n N D x) ∨ rC n d s N D x = nrQ N D (rX n N D x - rQ n N D x) + 1 := by
    unfold rC nrC
    cases nrF d s N D (rX n N D x - rQ n N D x)
    · exact Or.inl rfl
    · exact Or.inr rfl
  refine ⟨hq, by omega, fun h => by have := hge h; omega, ?_⟩
  rw [← bl_ge]; omega
theorem r_over {n : Int} (d : Int) (s : Bool) {N D : Nat} (x : Int) (hb : binN n) (hN : N ≠ 0) (hD : D ≠ 0) : (mostN n < rQ' n d s N D x ↔ tpN n ≤ rP n d s N D x) ∧ (¬ mostN n < rQ' n d s N D x → (rQ' n d s N D x - leastN n).toNat * 2 ^ fN n + rC' n d s N D x = rP n d s N D x) := by
  obtain ⟨h1, h2, h3, h4⟩ := r_coef d s x hb hN hD
  have hF := bin_fm hb
  have hp := pow_e hF.e2 hF.e15
  have hm := hF.m
  have hpc : ((2 : Int) ^ eN n) = ((2 ^ eN n : Nat) : Int) := by simp
  rw [hpc] at hp hm
  unfold tpN rP rQ' rC'
  obtain ⟨a, ha⟩ : ∃ a : Nat, rQ n N D x = leastN n + a := ⟨(rQ n N D x - leastN n).toNat, by omega⟩
  rw [ha] at h1 h3 ⊢
  rw [show (leastN n + (a : Int) - leastN n).toNat = a by omega]
  rw [show 2 ^ (fN n + 1) = 2 ^ fN n + 2 ^ fN n by rw [Nat.pow_succ]; omega] at h2 h4
  have hFp : 0 < 2 ^ fN n := Nat.two_pow_pos _
  generalize rC n d s N D x = C at *
  generalize 2 ^ fN n = F at *
  generalize 2 ^ eN n = E at *
  generalize leastN n = l at *
  generalize mostN n = m at *
  obtain ⟨E', hE'⟩ : ∃ E' : Nat, E = E' + 3 := ⟨E - 3, by omega⟩
  subst hE'
  rw [show E' + 3 - 1 = E' + 2 by omega]
  by_cases hu : (fN n : Int) + 1 < (bl C : Int)
  · rw [if_pos hu, if_pos hu]
    have hC : C = F + F := by have := h4.1 hu; omega
    have e1 : a * F + C = (a + 2) * F := by rw [hC, Nat.add_mul]; omega
    rw [e1]
    refine ⟨⟨fun h => Nat.mul_le_mul_right _ (by omega), fun h => ?_⟩, fun h => ?_⟩
    · have := Nat.le_of_mul_le_mul_right h hFp
      omega
    · rw [show (l + (a : Int) + 1 - l).toNat = a + 1 by omega, hC, show (F + F) / 2 = F by omega]
      rw [Nat.add_mul, Nat.add_mul]; omega
  · rw [if_neg hu, if_neg hu]
    have hC : C < F + F := by
      have := mt h4.2 hu; omega
    refine ⟨⟨fun h => ?_, fun h => ?_⟩, fun h => ?_⟩
    · have hCF := h3 (by omega)
      have : (E' + 2) * F ≤ (a + 1) * F := Nat.mul_le_mul_right _ (by omega)
      rw [Nat.add_mul a] at this
      omega
    · rcases Nat.lt_or_ge a (E' + 1) with h5 | h5
      · have : (a + 2) * F ≤ (E' + 2) * F := Nat.mul_le_mul_right _ (by omega)
        rw [Nat.add_mul a] at this
        omega
      · omega
    · rw [show (l + (a : Int) - l).toNat = a by omega]
theorem pk_fin {n : Int} {s : Bool} {q : Int} {c : Nat} (hb : binN n) (h : isD (fN n) (leastN n) (mostN n) ⟨1, s, false, q, c⟩) : pkV n ⟨1, s, false, q, c⟩ = (q - leastN n).toNat * 2 ^ fN n + c + sgN n s := by
  unfold pkV sgN
  rw [if_pos ⟨hb, h⟩]
  unfold pk
  simp
theorem pk_inf {n : Int} {s : Bool} (hb : binN n) : pkV n ⟨2, s, false, 0, 0⟩ = tpN n + sgN n s := by
  unfold pkV sgN tpN
  rw [if_pos ⟨hb, Or.inr (Or.inl ⟨rfl, rfl, rfl, rfl⟩)⟩]
  unfold pk
  simp
theorem lg_top {n : Int} {s : Bool} (hb : binN n) : lgV n s = tpN n - 1 + sgN n s ∧ 1 ≤ tpN n := by
  unfold lgV sgN tpN
  rw [if_pos hb]
  have hF := bin_fm hb
  have hp := pow_e hF.e2 hF.e15
  have hpc : ((2 : Int) ^ eN n) = ((2 ^ eN n : Nat) : Int) := by simp
  rw [hpc] at hp
  have hFp : 0 < 2 ^ fN n := Nat.two_pow_pos _
  generalize 2 ^ fN n = F at *
  generalize 2 ^ eN n = E at *
  obtain ⟨E', rfl⟩ : ∃ E' : Nat, E = E' + 2 := ⟨E - 2, by omega⟩
  rw [show E' + 2 - 2 = E' by omega, show E' + 2 - 1 = E' + 1 by omega, Nat.add_mul]
  omega
theorem r_pat {n : Int} (d : Int) (s : Bool) {N D : Nat} (x : Int) (hb : binN n) (hN : N ≠ 0) (hD : D ≠ 0) : rdV n d s N D x = capV (tpN n) (inB d s) (rP n d s N D x) + sgN n s := by
  obtain ⟨h1, h2⟩ := r_over d s x hb hN hD
  unfold rdV capV
  rw [if_neg hN]
  by_cases ho : mostN n < rQ' n d s N D x
  · rw [if_pos ho, if_pos (h1.1 ho)]
    cases inB d s
    · simp only [Bool.false_eq_true, if_false]; exact (lg_top hb).1
    · simp only [if_true]; exact pk_inf hb
  · rw [if_neg ho, if_neg (mt h1.2 ho), pk_fin hb (r_isD hb hN hD ho), h2 ho]
theorem r_zero {n : Int} (d : Int) (s : Bool) (D : Nat) (x : Int) (hb : binN n) : rdV n d s 0 D x = sgN n s ∧ rdF n d s 0 D x = 0 := by
  have hF := bin_fm hb
  have hp := pow_e hF.e2 hF.e15
  have hm := hF.m
  have hz : isD (fN n) (leastN n) (mostN n) ⟨1, s, false, leastN n, 0⟩ := Or.inl ⟨rfl, rfl, Nat.two_pow_pos _, Int.le_refl _, by show leastN n ≤ mostN n; omega, Or.inr rfl⟩
  unfold rdV rdF
  rw [if_pos rfl, if_pos rfl, pk_fin hb hz]
  simp
theorem r_flag {n : Int} (d : Int) (s : Bool) {N D : Nat} (x : Int) (hb : binN n) (hN : N ≠ 0) (hD : D ≠ 0) : rdF n d s N D x = if tpN n ≤ rP n d s N D x then 10 else if nrR N D (rX n N D x - rQ n N D x) = 0 then 0 else if ld N D + rX n N D x < (fN n : Int) + leastN n then 12 else 8 := by
  obtain ⟨h1, h2⟩ := r_over d s x hb hN hD
  unfold rdF
  rw [if_neg hN]
  by_cases ho : mostN n < rQ' n d s N D x
  · rw [if_pos ho, if_pos (h1.1 ho)]
  · rw [if_neg ho, if_neg (mt h1.2 ho)]
    simp only [decide_eq_true_eq]
theorem tp_lt {n : Int} (hb : binN n) : tpN n < 2 ^ (fN n + eN n) := by
  unfold tpN
  rw [Nat.pow_add, Nat.mul_comm]
  have hE : 0 < 2 ^ eN n := Nat.two_pow_pos _
  exact Nat.mul_lt_mul_of_pos_left (by omega) (Nat.two_pow_pos _)
theorem cap_le (T : Nat) (i : Bool) (p : Nat) : capV T i p ≤ T := by
  unfold capV; split
  · split <;> omega
  · omega
end Go.Proofs.YtpfnfaekgaipjaaDoor

namespace Go.Proofs.YtpfnfaekgaipjaaDoor
open Go.RowKit

/-- the fraction of a number and a power of ten, its twos apart -/
def tN (A : Nat) (e : Int) : Nat := A * 5 ^ e.toNat
def tD (e : Int) : Nat := 5 ^ (-e).toNat
end Go.Proofs.YtpfnfaekgaipjaaDoor

namespace Go.Proofs.YtpfnfaekgaipjaaDoor
open Go.RowKit

def loD (s : Bool) : Int := if s then 3 else 4
def hiD (s : Bool) : Int := if s then 4 else 3
theorem lo_hi (s : Bool) (o : Bool) (R D : Nat) (hR : R ≠ 0) : faB (loD s) s o R D = false ∧ faB (hiD s) s o R D = true ∧ faB 2 s o R D = false := by
  cases s <;> simp [faB, loD, hiD, inB, hR]
theorem fa_none (d : Int) (s o : Bool) (D : Nat) : faB d s o 0 D = false := by simp [faB]
theorem in_lohi (s : Bool) : inB (loD s) s = false ∧ inB (hiD s) s = true ∧ inB 2 s = false ∧ inB 0 s = true ∧ inB 1 s = true := by
  cases s <;> simp [loD, hiD, inB]
theorem cap_ways (T B : Nat) (hT : 1 ≤ T) : capV T true (B + 1) = capV T false B + 1 ∧ (capV T true B = capV T false B ∨ capV T true B = capV T false B + 1) ∧ (T ≤ B → capV T true B = capV T false B + 1) := by
  unfold capV
  simp only [if_true, Bool.false_eq_true, if_false]
  refine ⟨?_, ?_, ?_⟩ <;> (repeat' split) <;> omega
/-- all five: exact, and the same; or inexact, the two sides neighbours, and the other three one of them -/
theorem sides_ways {n : Int} (s : Bool) (N : Nat) {D : Nat} (x : Int) (hb : binN n) (hD : D ≠ 0) :
    (∀ d, rdF n d s N D x = 0 ∧ rdV n d s N D x = rdV n 4 s N D x) ∨
    ((∀ d, rdF n d s N D x = 8 ∨ rdF n d s N D x = 10 ∨ rdF n d s N D x = 12) ∧ rdV n (hiD s) s N D x = rdV n (loD s) s N D x + 1 ∧ rdV n 2 s N D x = rdV n (loD s) s N D x ∧
      (rdV n 0 s N D x = rdV n (loD s) s N D x ∨ rdV n 0 s N D x = rdV n (hiD s) s N D x) ∧ (rdV n 1 s N D x = rdV n (loD s) s N D x ∨ rdV n 1 s N D x = rdV n (hiD s) s N D x)) := by
  by_cases hN : N = 0
  · subst hN
    left
    intro d
    obtain ⟨h1, h2⟩ := r_zero d s D x hb
    obtain ⟨h3, _⟩ := r_zero 4 s D x hb
    exact ⟨h2, by rw [h1, h3]⟩
  have hp := fun d => r_pat d s x hb hN hD
  have hf := fun d => r_flag d s x hb hN hD
  have he := fun d => rP_eq n d s N D x
  have ht := (lg_top (s := s) hb).2
  generalize tpN n = T at *
  generalize sgN n s = g at *
  generalize hk : rX n N D x - rQ n N D x = k at *
  obtain ⟨i1, i2, i3, i4, i5⟩ := in_lohi s
  by_cases hR : nrR N D k = 0
  · have hz : ∀ d, rP n d s N D x = rB n N D x := by
      intro d
      rw [he d, show nrF d s N D k = false by unfold nrF; rw [hR]; exact fa_none _ _ _ _]
      rfl
    by_cases hT : T ≤ rB n N D x
    · right
      obtain ⟨_, _, c3⟩ := cap_ways T (rB n N D x) ht
      refine ⟨fun d => ?_, ?_, ?_, ?_, ?_⟩
      · rw [hf d, hz d, if_pos hT]; exact Or.inr (Or.inl rfl)
      · rw [hp, hp, hz, hz, i1, i2, c3 hT]; omega
      · rw [hp, hp, hz, hz, i1, i3]
      · right; rw [hp, hp, hz, hz, i2, i4]
      · right; rw [hp, hp, hz, hz, i2, i5]
    · left
      intro d
      refine ⟨by rw [hf d, hz d, if_neg hT, if_pos hR], ?_⟩
      rw [hp, hp, hz, hz]
      unfold capV
      rw [if_neg hT, if_neg hT]
  · right
    have hlo : rP n (loD s) s N D x = rB n N D x := by
      rw [he, show nrF (loD s) s N D k = false from (lo_hi s _ _ _ hR).1]; rfl
    have hhi : rP n (hiD s) s N D x = rB n N D x + 1 := by
      rw [he, show nrF (hiD s) s N D k = true from (lo_hi s _ _ _ hR).2.1]; rfl
    have h2 : rP n 2 s N D x = rB n N D x := by
      rw [he, show nrF 2 s N D k = false from (lo_hi s _ _ _ hR).2.2]; rfl
    have hw : ∀ d, rP n d s N D x = rB n N D x ∨ rP n d s N D x = rB n N D x + 1 := by
      intro d
      rw [he]
      cases nrF d s N D k
      · left; rfl
      · right; rfl
    obtain ⟨c1, c2, c3⟩ := cap_ways T (rB n N D x) ht
    have hn : ∀ d, inB d s = true → rdV n d s N D x = rdV n (loD s) s N D x ∨ rdV n d s N D x = rdV n (hiD s) s N D x := by
      intro d hd
      rw [hp d, hp (loD s), hp (hiD s), hlo, hhi, hd, i1, i2]
      rcases hw d with h | h <;> rw [h]
      · rcases c2 with c | c <;> rw [c]
        · left; rfl
        · right; omega
      · right; rfl
    refine ⟨fun d => ?_, ?_, ?_, hn 0 i4, hn 1 i5⟩
    · rw [hf d, if_neg hR]
      split
      · exact Or.inr (Or.inl rfl)
      · split
        · exact Or.inr (Or.inr rfl)
        · exact Or.inl rfl
    · rw [hp, hp, hlo, hhi, i1, i2, c1]; omega
    · rw [hp, hp, hlo, h2, i1, i3]
end Go.Proofs.YtpfnfaekgaipjaaDoor

namespace Go.Proofs.YtpfnfaekgaipjaaDoor
open Go.RowKit


theorem NT.more {K K' V : Nat} {v : Value} {w : World} (h : NT K V v w) (hk : K ≤ K') : NT K' V v w := by
  obtain ⟨g, k, cap, z, h1, h2, h3, h4, h5⟩ := h
  exact ⟨g, k, cap, z, h1, by omega, h3, h4, h5⟩
theorem rcmp_nv {K K' A B : Nat} {v v' : Value} {w : World} (hK : K < 1000000) (hK' : K' < 1000000) (h : NV K A v w) (h' : NV K' B v' w) :
    Calls Tryd.prog 9 #[v, v'] w fun e w' => e = .returned (.int .i64 (sgn (A : Int) B)) ∧ w = w' := by
  obtain ⟨g, k, c, z, rfl, hk, hN, hz⟩ := h
  obtain ⟨g2, k2, c2, z2, rfl, hk2, hN2, hz2⟩ := h'
  have := rcmp_any _ _ k c k2 c2 z z2 w (by omega) (by omega) hN hN2
  rw [hz, hz2] at this
  exact this
theorem rsize_nt {K V : Nat} {v : Value} {w : World} (hK : K < 1000000) (h : Nt K V v w) :
    ∃ m : Nat, (m ≤ K ∧ (m = 0 ↔ V = 0) ∧ ∀ j, m ≤ j ↔ bl V ≤ 64 * j) ∧ ∀ w', Below w.heap.size w w' → Calls Tryd.prog 6 #[v] w' fun e w'' => e = .returned (.int .i64 (m : Int)) ∧ w' = w'' := by
  obtain ⟨a, k, c, z, rfl, hk, hN, hz⟩ := h
  exact ⟨sizeL z k, ⟨Nat.le_trans (sizeL_le z k) hk, size_zero hN.2.2.1 hz, fun j => size_bl hN.2.2.1 hz⟩, fun w' hb => size_num a k c z w' (by omega) (hN.next hb)⟩
end Go.Proofs.YtpfnfaekgaipjaaDoor

namespace Go.Proofs.YtpfnfaekgaipjaaDoor
open Go.RowKit

attribute [local irreducible] W4
set_option maxHeartbeats 1000000 in
theorem awake6 (w : World) (hT : Tab w) : Calls Tryd.prog 4 #[] w fun x w' => x = .returned (.bool true) ∧ Below w.heap.size w w' := by
  have c11 := fun W (vn vd : Value) (hT : Tab W) (h1 : Nt 2001 1 vn W) (h2 : Nt 2001 3 vd W) => rnd_good 3 0 0 false hT h1 h2 (by decide) (by decide) (by decide) (Nat.le_trans (Nat.le_of_eq (bl_eq (L := 1) (by decide) (by decide))) (by decide)) (Nat.le_trans (Nat.le_of_eq (bl_eq (L := 2) (by decide) (by decide))) (by decide))
  rw [third_V, third_F, third_A] at c11
  have h24 := eq24 1051372203 0 0 0 1051372203 0 0 0
  rw [decide_eq_true (by decide)] at h24
  go_enter Tryd.func4, Tryd.ntmps4
  go_wp2_with (go_at_call 7; refine (c11 _ _ _ (hT.go bgo) (nt_one2 (by simp) rfl (by decide)) ((nt_one (by simp) rfl (by decide)).more (by decide))).mono ?_; rintro r w1 ⟨rfl, hb1⟩; obtain ⟨hc1, hf1⟩ := bcell hb1; have hA1 := bnext (w0 := w) bgo hb1; have hs1 := hA1.size; clear hb1)
  go_ret
  exact ⟨rfl, bgo⟩
section
variable (n x : Int) (s : Bool) (a a' : Option Addr) (k c k' c' : Nat) (w : World) (hT : Tab w) (hk : k ≤ c ∧ (c : Int) ≤ 9223372036854775807) (hk' : k' ≤ c' ∧ (c' : Int) ≤ 9223372036854775807)
include hT hk hk'
set_option maxHeartbeats 2000000 in
theorem sd_l1 (h : (100 : Int) < k) :
    Calls Tryd.prog 3 #[.int .i64 n, .bool s, .slice a k c, .slice a' k' c', .int .i64 x] w fun r w' => r = .returned (.bool true) ∧ Below w.heap.size w w' := by
  have c4 := awake6
  have hB : Below w.heap.size w w := Below.refl _ _
  go_enter Tryd.func3, Tryd.ntmps3
  go_wp2_with (first
    | (go_at_call 4; refine (c4 _ (hT.go hB)).mono ?_; rintro r w1 ⟨rfl, hb1⟩; replace hB := bnext hB hb1; clear hb1))
  go_ret
  exact ⟨rfl, hB⟩
variable (h : (k : Int) ≤ 100)
include h
set_option maxHeartbeats 2000000 in
theorem sd_l2 (h' : (100 : Int) < k') :
    Calls Tryd.prog 3 #[.int .i64 n, .bool s, .slice a k c, .slice a' k' c', .int .i64 x] w fun r w' => r = .returned (.bool true) ∧ Below w.heap.size w w' := by
  have c4 := awake6
  have hB : Below w.heap.size w w := Below.refl _ _
  go_enter Tryd.func3, Tryd.ntmps3
  go_wp2_with (first
    | (go_at_call 4; refine (c4 _ (hT.go hB)).mono ?_; rintro r w1 ⟨rfl, hb1⟩; replace hB := bnext hB hb1; clear hb1))
  go_ret
  exact ⟨rfl, hB⟩
variable (h' : (k' : Int) ≤ 100)
include h'
set_option maxHeartbeats 2000000 in
theorem sd_nb (c5 : ∀ W, Calls Tryd.prog 5 #[.int .i64 n] W fun r w' => r = .returned (.bool false) ∧ W = w') :
    Calls Tryd.prog 3 #[.int .i64 n, .bool s, .slice a k c, .slice a' k' c', .int .i64 x] w fun r w' => r = .returned (.bool true) ∧ Below w.heap.size w w' := by
  have c4 := awake6
  have hB : Below w.heap.size w w := Below.refl _ _
  go_enter Tryd.func3, Tryd.ntmps3
  go_wp2_with (first
    | (go_at_call 4; refine (c4 _ (hT.go hB)).mono ?_; rintro r w1 ⟨rfl, hb1⟩; replace hB := bnext hB hb1; clear hb1)
    | (go_at_call 5; refine (c5 _).mono ?_; rintro r w2 ⟨rfl, rfl⟩))
  go_ret
  exact ⟨rfl, hB⟩
variable (c5 : ∀ W, Calls Tryd.prog 5 #[.int .i64 n] W fun r w' => r = .returned (.bool true) ∧ W = w')
include c5
set_option maxHeartbeats 2000000 in
theorem sd_z (c6 : ∀ W, Below w.heap.size w W → Calls Tryd.prog 6 #[.slice a' k' c'] W fun r w' => r = .returned (.int .i64 0) ∧ W = w') :
    Calls Tryd.prog 3 #[.int .i64 n, .bool s, .slice a k c, .slice a' k' c', .int .i64 x] w fun r w' => r = .returned (.bool true) ∧ Below w.heap.size w w' := by
  have c4 := awake6
  have hB : Below w.heap.size w w := Below.refl _ _
  go_enter Tryd.func3, Tryd.ntmps3
  go_wp2_with (first
    | (go_at_call 4; refine (c4 _ (hT.go hB)).mono ?_; rintro r w1 ⟨rfl, hb1⟩; replace hB := bnext hB hb1; clear hb1)
    | (go_at_call 5; refine (c5 _).mono ?_; rintro r w2 ⟨rfl, rfl⟩)
    | (go_at_call 6; refine (c6 _ hB).mono ?_; rintro r w2 ⟨rfl, rfl⟩))
  go_ret
  exact ⟨rfl, hB⟩
end
end Go.Proofs.YtpfnfaekgaipjaaDoor
