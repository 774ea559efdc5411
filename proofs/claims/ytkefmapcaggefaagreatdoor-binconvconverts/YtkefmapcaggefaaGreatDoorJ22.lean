/-
  Texts that the proof leans on, joined: Rm, Fj, Rc, Rf, Rg, Re, Ea, Ta, Te.
-/
import Derived.Test.YtkefmapcaggefaaGreatDoorJ11
import Derived.Test.YtkefmapcaggefaaGreatDoorJ19
import Derived.Test.YtkefmapcaggefaaGreatDoorJ21
import Derived.Test.YtkefmapcaggefaaGreatDoorJ15
import Derived.Test.YtkefmapcaggefaaGreatDoorJ12
import Derived.Test.YtkefmapcaggefaaGreatDoorJ16
import Derived.Test.YtkefmapcaggefaaGreatDoorJ1
import Derived.Test.YtkefmapcaggefaaGreatDoorJ17
import Derived.Test.YtkefmapcaggefaaGreatDoorJ18
set_option linter.unusedVariables false
set_option linter.unusedSectionVars false
set_option linter.unusedSimpArgs false
set_option maxRecDepth 20000
namespace Go.Proofs.YtkefmapcaggefaaGreatDoor

theorem sc1 (a : Nat) (n : Int) (K : Nat) (h : 0 ≤ (K : Int) + n) : a * 2 ^ n.toNat * 2 ^ K = a * 2 ^ ((K : Int) + n).toNat * 2 ^ (-n).toNat := by
  have : n.toNat + K = ((K : Int) + n).toNat + (-n).toNat := by omega
  rw [Nat.mul_assoc, ← Nat.pow_add, Nat.mul_assoc, ← Nat.pow_add, this]
/-- a times 2^n against b, all exponents raised by K -/
theorem cmp_sc (a b : Nat) (n : Int) (K : Nat) (h : 0 ≤ (K : Int) + n) : a * 2 ^ n.toNat < b * 2 ^ (-n).toNat ↔ a * 2 ^ ((K : Int) + n).toNat < b * 2 ^ K := by
  have e := sc1 a n K h
  have p := Nat.two_pow_pos K
  have p2 := Nat.two_pow_pos (-n).toNat
  constructor
  · intro hlt
    have := Nat.mul_lt_mul_of_pos_right hlt p
    rw [e, Nat.mul_right_comm b] at this
    exact Nat.lt_of_mul_lt_mul_right this
  · intro hlt
    have := Nat.mul_lt_mul_of_pos_right hlt p2
    rw [← e, Nat.mul_right_comm b] at this
    exact Nat.lt_of_mul_lt_mul_right this
theorem bl_bd {V : Nat} (h : V ≠ 0) : 2 ^ (bl V - 1) ≤ V ∧ V < 2 ^ bl V ∧ 1 ≤ bl V := by
  have h0 : bl V ≠ 0 := fun e => h (bl_zero.1 e)
  exact ⟨bl_ge.1 (by omega), bl_le.1 (Nat.le_refl _), by omega⟩
theorem ld_bd {N D : Nat} (hN : N ≠ 0) (hD : D ≠ 0) (K : Nat) (hK : (bl D : Int) + 1 ≤ K) :
    D * 2 ^ ((K : Int) + ld N D).toNat ≤ N * 2 ^ K ∧ N * 2 ^ K < D * 2 ^ ((K : Int) + ld N D + 1).toNat := by
  obtain ⟨n1, n2, n3⟩ := bl_bd hN
  obtain ⟨d1, d2, d3⟩ := bl_bd hD
  have pK := Nat.two_pow_pos K
  obtain ⟨K', hK'⟩ : ∃ K' : Nat, (K' : Int) = (K : Int) + ((bl N : Int) - bl D) := ⟨((K : Int) + ((bl N : Int) - bl D)).toNat, by omega⟩
  have key := cmp_sc N D (-((bl N : Int) - bl D)) K' (by omega)
  rw [Int.neg_neg, show ((K' : Int) + -((bl N : Int) - bl D)).toNat = K by omega] at key
  unfold ld
  dsimp only
  by_cases hc : N * 2 ^ (-((bl N : Int) - bl D)).toNat < D * 2 ^ ((bl N : Int) - bl D).toNat
  · rw [if_pos hc]
    have h1 := key.1 hc
    refine ⟨?_, ?_⟩
    · rw [show ((K : Int) + ((bl N : Int) - bl D - 1)).toNat = K' - 1 by omega]
      have a1 : D * 2 ^ (K' - 1) ≤ 2 ^ bl D * 2 ^ (K' - 1) := Nat.mul_le_mul_right _ (Nat.le_of_lt d2)
      have a2 : 2 ^ (bl N - 1) * 2 ^ K ≤ N * 2 ^ K := Nat.mul_le_mul_right _ n1
      rw [← Nat.pow_add] at a1 a2
      rw [show bl D + (K' - 1) = bl N - 1 + K by omega] at a1
      exact Nat.le_trans a1 a2
    · rw [show ((K : Int) + ((bl N : Int) - bl D - 1) + 1).toNat = K' by omega]
      exact h1
  · rw [if_neg hc]
    have h1 : D * 2 ^ K' ≤ N * 2 ^ K := Nat.le_of_not_lt fun h => hc (key.2 h)
    refine ⟨?_, ?_⟩
    · rw [show ((K : Int) + ((bl N : Int) - bl D)).toNat = K' by omega]
      exact h1
    · rw [show ((K : Int) + ((bl N : Int) - bl D) + 1).toNat = K' + 1 by omega]
      have a1 : N * 2 ^ K < 2 ^ bl N * 2 ^ K := Nat.mul_lt_mul_of_pos_right n2 pK
      have a2 : 2 ^ (bl D - 1) * 2 ^ (K' + 1) ≤ D * 2 ^ (K' + 1) := Nat.mul_le_mul_right _ d1
      rw [← Nat.pow_add] at a1 a2
      rw [show bl D - 1 + (K' + 1) = bl N + K by omega] at a2
      exact Nat.lt_of_lt_of_le a1 a2
theorem nrQ_lt {N D : Nat} (hN : N ≠ 0) (hD : D ≠ 0) {n : Int} {f : Nat} (h : ld N D + n ≤ f) : nrQ N D n < 2 ^ (f + 1) := by
  unfold nrQ
  apply Nat.div_lt_of_lt_mul
  obtain ⟨K, hK⟩ : ∃ K : Nat, K = bl D + 1 + n.natAbs := ⟨_, rfl⟩
  obtain ⟨K1, hK1⟩ : ∃ K1 : Nat, (K1 : Int) = (K : Int) + n := ⟨((K : Int) + n).toNat, by omega⟩
  have key := cmp_sc N (D * 2 ^ (f + 1)) n K (by omega)
  rw [show ((K : Int) + n).toNat = K1 by omega] at key
  have hb := (ld_bd hN hD K1 (by omega)).2
  have hle : D * 2 ^ ((K1 : Int) + ld N D + 1).toNat ≤ D * 2 ^ (f + 1) * 2 ^ K := by
    rw [Nat.mul_assoc, ← Nat.pow_add]
    exact Nat.mul_le_mul_left _ (Nat.pow_le_pow_right (by decide) (by omega))
  have := key.2 (Nat.lt_of_lt_of_le hb hle)
  rw [Nat.mul_right_comm] at this
  exact this
theorem nrQ_ge {N D : Nat} (hN : N ≠ 0) (hD : D ≠ 0) {n : Int} {f : Nat} (h : ld N D + n = f) : 2 ^ f ≤ nrQ N D n := by
  unfold nrQ
  have hpos : 0 < D * 2 ^ (-n).toNat := Nat.mul_pos (by omega) (Nat.two_pow_pos _)
  rw [Nat.le_div_iff_mul_le hpos]
  apply Nat.le_of_not_lt
  intro hlt
  obtain ⟨K, hK⟩ : ∃ K : Nat, K = bl D + 1 + n.natAbs := ⟨_, rfl⟩
  obtain ⟨K1, hK1⟩ : ∃ K1 : Nat, (K1 : Int) = (K : Int) + n := ⟨((K : Int) + n).toNat, by omega⟩
  have key := cmp_sc N (D * 2 ^ f) n K (by omega)
  rw [show ((K : Int) + n).toNat = K1 by omega] at key
  have hb := (ld_bd hN hD K1 (by omega)).1
  rw [show 2 ^ f * (D * 2 ^ (-n).toNat) = D * 2 ^ f * 2 ^ (-n).toNat by rw [← Nat.mul_assoc, Nat.mul_comm (2 ^ f) D]] at hlt
  have h2 := key.1 hlt
  rw [Nat.mul_assoc, ← Nat.pow_add, show f + K = ((K1 : Int) + ld N D).toNat by omega] at h2
  omega
end Go.Proofs.YtkefmapcaggefaaGreatDoor

namespace Go.Proofs.YtkefmapcaggefaaGreatDoor
open Go.RowKit

theorem finite_v (n : Int) (nm : ByteArray) (wd : Int) (f e : Nat) (l m : Int) (s : Bool) (x fl : Int) {K C : Nat} {v : Value} {w : World} (hT : Tab w) (h : Nz K C v w) (hC : C < 2 ^ 256) :
    Calls Tryz.prog 54 #[DI n nm wd f e l m, .bool s, v, .int .i64 x, .int .i64 fl] w fun r w' => r = .returned (.tuple #[A4 (pkV n ⟨1, s, false, x, C⟩), .int .i64 fl, .int .i64 (pkE n ⟨1, s, false, x, C⟩)]) ∧ Below w.heap.size w w' := by
  obtain ⟨a, k, cap, z, rfl, hk, hN, hv, hs⟩ := h
  have hk4 : k ≤ 4 := by
    have := (size_bl (m := 4) hN.2.2.1 hv).2 (bl_le.2 hC)
    omega
  have hv4 : val z 4 = (C : Int) := by rw [val_more hN.2.2.2.1 4 hk4, hv]
  have hz : ∀ i, i < 4 → z i = W4 C i := val_inj hN.2.2.1 (W4_words C) 4 (by rw [hv4, W4_val4 hC])
  have c56 := fun W hT => pack_any n ⟨1, s, false, x, C⟩ W hT hC
  have ed : (Dat.mk 1 s false x C).v = .agg #[.int .i64 1, .bool s, .bool false, .int .i64 x, .int .u64 (z 0), .int .u64 (z 1), .int .u64 (z 2), .int .u64 (z 3)] := by
    unfold Dat.v DV
    rw [hz 0 (by decide), hz 1 (by decide), hz 2 (by decide), hz 3 (by decide)]
  rw [ed] at c56
  have z0 := hN.2.2.2.1
  generalize pkV n ⟨1, s, false, x, C⟩ = R at *
  generalize pkE n ⟨1, s, false, x, C⟩ = E at *
  obtain ⟨n1, n2, n3, n4, n5⟩ := hN
  rcases n5 with ⟨rfl, rfl⟩ | ⟨b, off, rfl, hb, hc⟩
  · obtain rfl : k = 0 := by omega
    rw [z0 0 (by omega), z0 1 (by omega), z0 2 (by omega), z0 3 (by omega)] at c56
    exact fin_n n nm wd f e l m s x fl E R w hT c56
  · have : k = 0 ∨ k = 1 ∨ k = 2 ∨ k = 3 ∨ k = 4 := by omega
    rcases this with rfl | rfl | rfl | rfl | rfl
    · rw [z0 0 (by omega), z0 1 (by omega), z0 2 (by omega), z0 3 (by omega)] at c56
      exact fin_0 n nm wd f e l m s x fl E R w hT b off cap hb c56
    · rw [z0 1 (by omega), z0 2 (by omega), z0 3 (by omega)] at c56
      exact fin_1 n nm wd f e l m s x fl E R z w hT b off cap hb (hc 0 (by decide)) c56
    · rw [z0 2 (by omega), z0 3 (by omega)] at c56
      exact fin_2 n nm wd f e l m s x fl E R z w hT b off cap hb (hc 0 (by decide)) (hc 1 (by decide)) c56
    · rw [z0 3 (by omega)] at c56
      exact fin_3 n nm wd f e l m s x fl E R z w hT b off cap hb (hc 0 (by decide)) (hc 1 (by decide)) (hc 2 (by decide)) c56
    · exact fin_4 n nm wd f e l m s x fl E R z w hT b off cap hb (hc 0 (by decide)) (hc 1 (by decide)) (hc 2 (by decide)) (hc 3 (by decide)) c56
end Go.Proofs.YtkefmapcaggefaaGreatDoor

namespace Go.Proofs.YtkefmapcaggefaaGreatDoor
open Go.RowKit

/-- the exponent within reach, the unit's exponent, the coefficient, and both behind the carry -/
def rX (n : Int) (N D : Nat) (x : Int) : Int := wiZ (fN n) (leastN n) (mostN n) (ld N D) x
def rQ (n : Int) (N D : Nat) (x : Int) : Int := max (leastN n) (ld N D + rX n N D x - ((fN n : Int) + 1) + 1)
def rC (n d : Int) (s : Bool) (N D : Nat) (x : Int) : Nat := nrC d s N D (rX n N D x - rQ n N D x)
def rC' (n d : Int) (s : Bool) (N D : Nat) (x : Int) : Nat := if (fN n : Int) + 1 < (bl (rC n d s N D x) : Int) then rC n d s N D x / 2 else rC n d s N D x
def rQ' (n d : Int) (s : Bool) (N D : Nat) (x : Int) : Int := if (fN n : Int) + 1 < (bl (rC n d s N D x) : Int) then rQ n N D x + 1 else rQ n N D x
/-- the pattern and the flags -/
def rdV (n d : Int) (s : Bool) (N D : Nat) (x : Int) : Nat := if N = 0 then pkV n ⟨1, s, false, leastN n, 0⟩ else if mostN n < rQ' n d s N D x then (if inB d s then pkV n ⟨2, s, false, 0, 0⟩ else lgV n s) else pkV n ⟨1, s, false, rQ' n d s N D x, rC' n d s N D x⟩
def rdF (n d : Int) (s : Bool) (N D : Nat) (x : Int) : Int := if N = 0 then 0 else if mostN n < rQ' n d s N D x then 10 else if decide (nrR N D (rX n N D x - rQ n N D x) = 0) then 0 else if decide (ld N D + rX n N D x < (fN n : Int) + leastN n) then 12 else 8
theorem bin_more' {n : Int} (h : binN n) : numN n = n ∧ denseN n = false := by
  rcases bin_cases h with rfl | rfl | rfl | rfl | rfl | rfl <;> exact ⟨by decide, by decide⟩
theorem dof_bin {n : Int} (hb : binN n) (w : World) (hT : Tab w) : Calls Tryz.prog 8 #[.int .i64 n] w fun x w' => x = .returned (.tuple #[DI n (nameN n) (widthN n) (fN n) (eN n) (leastN n) (mostN n), .int .i64 0]) ∧ Below w.heap.size w w' := by
  obtain ⟨hok, hb2, hpr, hex, hwd, hpy⟩ := bin_fields hb
  obtain ⟨hnum, hden⟩ := bin_more' hb
  have c := ofv_any n w hT
  rw [show infoE n = 0 from if_pos hok, hnum, hb2, hpr, hex, hden, hpy] at c
  exact c
theorem nz_nil (w : World) : Nz 0 0 (.slice none 0 0) w :=
  ⟨none, 0, 0, fun _ => 0, rfl, Nat.le_refl _, ⟨Nat.le_refl _, by unfold maxLen; omega, fun i => ⟨Int.le_refl _, (by decide : (0 : Int) ≤ 18446744073709551615)⟩, fun _ _ => rfl, Or.inl ⟨rfl, rfl⟩⟩, rfl, rfl⟩
/-- the datum that comes out is the format's -/
theorem r_isD {n d : Int} {s : Bool} {N D : Nat} {x : Int} (hb : binN n) (hN : N ≠ 0) (hD : D ≠ 0) (ho : ¬ mostN n < rQ' n d s N D x) : isD (fN n) (leastN n) (mostN n) ⟨1, s, false, rQ' n d s N D x, rC' n d s N D x⟩ := by
  have hq : leastN n ≤ rQ n N D x := Int.le_max_left _ _
  have hq2 : ld N D + (rX n N D x - rQ n N D x) ≤ (fN n : Int) := by unfold rQ; omega
  have hlt := nrQ_lt hN hD hq2
  have hge : rQ n N D x ≠ leastN n → 2 ^ fN n ≤ nrQ N D (rX n N D x - rQ n N D x) := fun h => nrQ_ge hN hD (by unfold rQ at h ⊢; omega)
  have hC : rC n d s N D x = nrQ N D (rX n N D x - rQ n N D x) ∨ rC n d s N D x = nrQ N D (rX n N D x - rQ n N D x) + 1 := by
    unfold rC nrC
    cases nrF d s N D (rX n N D x - rQ n N D x)
    · exact Or.inl rfl
    · exact Or.inr rfl
  have hs : 2 ^ (fN n + 1) = 2 ^ fN n + 2 ^ fN n := by rw [Nat.pow_succ]; omega
  have hu : (fN n : Int) + 1 < (bl (rC n d s N D x) : Int) ↔ 2 ^ (fN n + 1) ≤ rC n d s N D x := by
    rw [← bl_ge]; omega
  unfold rQ' rC' at *
  by_cases h : (fN n : Int) + 1 < (bl (rC n d s N D x) : Int)
  · rw [if_pos h] at ho
    have h2 := hu.1 h
    have e : rC n d s N D x = 2 ^ (fN n + 1) := by omega
    rw [if_pos h, if_pos h]
    exact Or.inl ⟨rfl, rfl, by show rC n d s N D x / 2 < _; omega, by show leastN n ≤ rQ n N D x + 1; omega, by show rQ n N D x + 1 ≤ _; omega, Or.inl (by show 2 ^ fN n ≤ rC n d s N D x / 2; omega)⟩
  · rw [if_neg h] at ho
    have h2 := mt hu.2 h
    rw [if_neg h, if_neg h]
    refine Or.inl ⟨rfl, rfl, by show rC n d s N D x < _; omega, hq, by show rQ n N D x ≤ _; omega, ?_⟩
    by_cases h3 : rQ n N D x = leastN n
    · exact Or.inr h3
    · have := hge h3
      exact Or.inl (by show 2 ^ fN n ≤ rC n d s N D x; omega)
theorem wi_bd {n : Int} {L x : Int} (hb : binN n) (hL : -60000 ≤ L ∧ L ≤ 60000) : -300000 ≤ wiZ (fN n) (leastN n) (mostN n) L x ∧ wiZ (fN n) (leastN n) (mostN n) L x ≤ 300000 ∧ -100000 ≤ leastN n ∧ leastN n ≤ 100000 ∧ -100000 ≤ mostN n ∧ mostN n ≤ 100000 ∧ L + wiZ (fN n) (leastN n) (mostN n) L x ≤ 100000 ∧ -100000 ≤ L + wiZ (fN n) (leastN n) (mostN n) L x := by
  unfold wiZ
  rcases bin_cases hb with rfl | rfl | rfl | rfl | rfl | rfl
  all_goals
    simp [leastN, mostN, fN, precN]
    omega
theorem ld_ab {N D : Nat} (h1 : bl N ≤ 51200) (h2 : bl D ≤ 51200) : -60000 ≤ ld N D ∧ ld N D ≤ 60000 := by
  unfold ld
  dsimp only
  split <;> omega
theorem rnd_good (n d x : Int) (s : Bool) {N D : Nat} {vn vd : Value} {w : World} (hT : Tab w) (hn : Nt 2001 N vn w) (hd : Nt 2001 D vd w) (hb : binN n) (hk : knB d) (hD : D ≠ 0) (h1 : bl N ≤ 51200) (h2 : bl D ≤ 51200) :
    Calls Tryz.prog 29 #[.int .i64 n, .int .i64 d, .bool s, vn, vd, .int .i64 x] w fun r w' => r = .returned (.tuple #[A4 (rdV n d s N D x), .int .i64 (rdF n d s N D x), .int .i64 0]) ∧ Below w.heap.size w w' := by
  have hF := bin_fm hb
  have hf240 := hF.f240
  have c26 := fun W (hb' : Below w.heap.size w W) => nlen_v (by decide) (hn.next hb')
  have c26d := fun W (hb' : Below w.heap.size w W) => nlen_v (by decide) (hd.next hb')
  have hDb : (((bl D : Nat) : Int) == 0) = false := by
    have : bl D ≠ 0 := fun e => hD (bl_zero.1 e)
    rw [beq_eq_false_iff_ne]; omega
  have c25 : ∀ W, Below w.heap.size w W → Calls Tryz.prog 52 #[.int .i64 n, .int .i64 d, vn, vd] W fun r w' => r = .returned (.tuple #[DI n (nameN n) (widthN n) (fN n) (eN n) (leastN n) (mostN n), .int .i64 0]) ∧ Below W.heap.size W w' := fun W hW =>
    check_k n d _ _ _ _ _ _ N D vn vd W (hT.go hW) (fun W' h' => c26 W' (bnx hW h')) (fun W' h' => c26d W' (bnx hW h')) (decide_eq_true hk) hDb (by omega) (by omega) (fun W' hT' => dof_bin hb W' hT')
  unfold rdV rdF
  by_cases hz : N = 0
  · rw [if_pos hz, if_pos hz]
    have hp := pow_e hF.e2 hF.e15
    have hm := hF.m
    have hi : isD (fN n) (leastN n) (mostN n) ⟨1, s, false, leastN n, 0⟩ := Or.inl ⟨rfl, rfl, Nat.two_pow_pos _, Int.le_refl _, by show leastN n ≤ mostN n; omega, Or.inr rfl⟩
    have e : pkE n ⟨1, s, false, leastN n, 0⟩ = 0 := by unfold pkE; rw [if_pos hb, if_pos hi]
    refine binary_z n d x s vn vd w hT _ _ _ _ _ _ N _ _ c25 c26 (by rw [hz]; decide) fun W hT' => ?_
    have := finite_v n (nameN n) (widthN n) (fN n) (eN n) (leastN n) (mostN n) s (leastN n) 0 hT' (nz_nil W) (by decide)
    rw [e] at this
    exact this
  · rw [if_neg hz, if_neg hz]
    have hN0 : (((bl N : Nat) : Int) == 0) = false := by
      have : bl N ≠ 0 := fun e => hz (bl_zero.1 e)
      rw [beq_eq_false_iff_ne]; omega
    have hL := ld_ab h1 h2
    obtain ⟨w1, w2, w3, w4, w5, w6, w7, w8⟩ := wi_bd (x := x) hb hL
    have hq0 : rQ n N D x = max (leastN n) (ld N D + rX n N D x - ((fN n : Int) + 1) + 1) := rfl
    have c28 := fun W (hb' : Below w.heap.size w W) => leading_v (hn.next hb') (hd.next hb') h1 h2
    have c29 := fun W => within_any n (nameN n) (widthN n) (fN n) (eN n) (leastN n) (mostN n) (ld N D) x W (by omega) ⟨w3, w4⟩ ⟨w5, w6⟩ (by omega)
    have hX : rX n N D x = wiZ (fN n) (leastN n) (mostN n) (ld N D) x := rfl
    rw [← hX] at w1 w2 w7 w8
    have hbn : (bl N : Int) + (rX n N D x - rQ n N D x) ≤ 127000 ∧ (bl D : Int) - (rX n N D x - rQ n N D x) ≤ 127000 := by
      have hl2 : (bl N : Int) - bl D - 1 ≤ ld N D ∧ ld N D ≤ (bl N : Int) - bl D := by
        unfold ld; dsimp only; split <;> omega
      have hp := pow_e hF.e2 hF.e15
      have hm := hF.m
      have hr : leastN n - 2 - ld N D ≤ rX n N D x := by rw [hX]; unfold wiZ; omega
      rw [hq0]; omega
    have c30 : ∀ W k, k = rX n N D x - rQ n N D x → Below w.heap.size w W → Calls Tryz.prog 57 #[.int .i64 d, .bool s, vn, vd, .int .i64 k] W fun r w' => ∃ v, r = .returned (.tuple #[v, .bool (decide (nrR N D (rX n N D x - rQ n N D x) = 0))]) ∧ Nz 2003 (rC n d s N D x) v w' ∧ Below W.heap.size W w' := fun W k hk' hb' => by
      subst hk'
      exact nearby_v d _ s (hn.next hb') (hd.next hb') hD hbn.1 hbn.2 (by omega) (by omega)
    have hup : (fN n : Int) + 1 < (bl (rC n d s N D x) : Int) → rC' n d s N D x = rC n d s N D x / 2 ∧ rQ' n d s N D x = rQ n N D x + 1 := fun h => ⟨if_pos h, if_pos h⟩
    have hno : ¬ (fN n : Int) + 1 < (bl (rC n d s N D x) : Int) → rC' n d s N D x = rC n d s N D x ∧ rQ' n d s N D x = rQ n N D x := fun h => ⟨if_neg h, if_neg h⟩
    have c26c := fun W v (h : Nz 2003 (rC n d s N D x) v W) => nlen_v (by decide) h.nt
    have c31 := fun W v (h : Nz 2003 (rC n d s N D x) v W) => nshr_v (by decide) h.nt
    by_cases ho : mostN n < rQ' n d s N D x
    · rw [if_pos ho, if_pos ho]
      refine binary_o n d x s vn vd w hT _ _ _ _ _ _ N (rC n d s N D x) _ _ _ (ld N D) (rX n N D x) (rQ n N D x) _ c25 c26 (by omega) ⟨w3, w4⟩ ⟨w5, w6⟩ (by omega) ⟨w1, w2⟩ hq0 hN0 c28 c29 c30 c26c c31 _ _ hup hno ho ?_
      intro W hT'
      by_cases hi : inB d s = true
      · rw [if_pos hi]
        have hd2 : isD (fN n) (leastN n) (mostN n) ⟨2, s, false, 0, 0⟩ := Or.inr (Or.inl ⟨rfl, rfl, rfl, rfl⟩)
        have e : pkE n ⟨2, s, false, 0, 0⟩ = 0 := by unfold pkE; rw [if_pos hb, if_pos hd2]
        refine overflow_i n _ _ _ _ _ _ d s _ _ W hT' hi fun W' hT2 => ?_
        have := pack_any n ⟨2, s, false, 0, 0⟩ W' hT2 (by show 0 < 2 ^ 256; decide)
        rw [e] at this
        unfold Dat.v DV at this
        simp only [W4_zero] at this
        exact this
      · rw [if_neg hi]
        refine overflow_l n _ _ _ _ _ _ d s _ _ W hT' (by simpa using hi) fun W' hT2 => ?_
        have := largest_any n s W' hT2
        rw [show lgE n = 0 from if_pos hb] at this
        exact this
    · rw [if_neg ho, if_neg ho]
      have hi := r_isD (s := s) hb hz hD ho
      have e : pkE n ⟨1, s, false, rQ' n d s N D x, rC' n d s N D x⟩ = 0 := by unfold pkE; rw [if_pos hb, if_pos hi]
      have hC : rC' n d s N D x < 2 ^ 256 := by
        rcases hi with ⟨_, _, hk1, _⟩ | ⟨hc, _⟩ | ⟨hc, _⟩
        · exact Nat.lt_of_lt_of_le hk1 (Nat.pow_le_pow_right (by decide) (by omega))
        · exact absurd (show (1 : Int) = 2 from hc) (by decide)
        · exact absurd (show (1 : Int) = 3 from hc) (by decide)
      refine binary_f n d x s vn vd w hT _ _ _ _ _ _ N (rC n d s N D x) _ _ _ (ld N D) (rX n N D x) (rQ n N D x) _ c25 c26 (by omega) ⟨w3, w4⟩ ⟨w5, w6⟩ (by omega) ⟨w1, w2⟩ hq0 hN0 c28 c29 c30 c26c c31 _ _ hup hno ho 0 rfl ?_
      intro W v hT' hv
      have := finite_v n (nameN n) (widthN n) (fN n) (eN n) (leastN n) (mostN n) s (rQ' n d s N D x) (if decide (nrR N D (rX n N D x - rQ n N D x) = 0) then 0 else if decide (ld N D + rX n N D x < (fN n : Int) + leastN n) then 12 else 8) hT' hv hC
      rw [e] at this
      exact this
end Go.Proofs.YtkefmapcaggefaaGreatDoor

namespace Go.Proofs.YtkefmapcaggefaaGreatDoor
open Go.RowKit
theorem rless_tr (a a' : Option Addr) (n c n' c' : Nat) (x y : Nat → Int) (w : World) (hn : n < 4294967290) (hn' : n' < 4294967290) (h : Num w a n c x) (h' : Num w a' n' c' y) :
    Calls Tryz.prog 63 #[.slice a n c, .slice a' n' c'] w fun e w' => ∃ g k cap, e = .returned (.slice (some ⟨g, 0, none⟩) k cap) ∧ k ≤ max n n' ∧ Num w' (some ⟨g, 0, none⟩) k cap (difZ x y (max n n')) ∧ sizeL (difZ x y (max n n')) k = k ∧ Below w.heap.size w w' := by
  have hx := h.2.2.1
  have hy := h'.2.2.1
  have zx := h.2.2.2.1
  have zy := h'.2.2.2.1
  obtain ⟨M, hM⟩ : ∃ M, max n n' = M := ⟨_, rfl⟩
  have hMi : max (n : Int) n' = (M : Int) := by omega
  have hMb : M < 4294967292 := by omega
  have hmk := fun w => make_any (max (n : Int) n') M hMi (by omega) w
  have hfin : ∀ (ss : Array Value), ss.size = M → (∀ j h, ss[j]'h = Value.int .u64 (difW x y j)) → Num (w.alloc (.cells ss 22)) (some ⟨w.heap.size, 0, none⟩) M M (difZ x y (max n n')) := fun ss h1 h2 => num_of_block (by omega) (difZ_words x y _) (fun i hi => by unfold difZ; rw [if_neg (by omega)]) h1 (fun j hj => by rw [h2 j hj]; unfold difZ; rw [if_pos (by omega)])
  have hw1 := fun (i : Nat) (ss : Array Value) => word_any a n c i x (w.alloc (.cells ss 22)) (h.next (below1 w _))
  have hw2 := fun (i : Nat) (ss : Array Value) => word_any a' n' c' i y (w.alloc (.cells ss 22)) (h'.next (below1 w _))
  have HM : Hid (max n n' = M) := hM
  have HZ : Hid ((arrOf (fun _ => 0) M).size = M ∧ ∀ j h, (arrOf (fun _ => 0) M)[j]'h = Value.int .u64 0) := ⟨arrOf_size _ _, fun j h => arrOf_get _ _ _ _⟩
  clear h h' zx zy hM hMi
  generalize arrOf (fun _ => 0) M = zz at *
  go_enter Tryz.func63, Tryz.ntmps63
  go_wp2
  go_loopw [6, 7, 16, 19] (fun c u7 i u20 wr => ∃ (k : Nat) (ss : Array Value), k ≤ M ∧ i = .int .i64 k ∧ c = .int .u64 (borW x y k) ∧ ss.size = M ∧ (∀ j h, ss[j]'h = Value.int .u64 (if j < k then difW x y j else 0)) ∧ wr = w.alloc (.cells ss 22)) (fun _ _ i _ _ => M - (intOf i).toNat)
  case atStart => exact ⟨0, zz, Nat.zero_le _, rfl, rfl, HZ.out.1, fun j h => by rw [HZ.out.2 j h]; simp, rfl⟩
  case round =>
    obtain ⟨k, ss, hk, rfl, rfl, hsz, hss, rfl⟩ := hrel
    have hcar := borW_01 x y k
    by_cases h8 : k < M
    · have h8i : (k : Int) < M := by omega
      have h8s : k < ss.size := by omega
      have bx := hx k
      have b_y := hy k
      have hsk : ss[k]? = some (.int .u64 0) := by rw [Array.getElem?_eq_getElem h8s, hss k h8s, if_neg (by omega)]
      have hadd := fun w => sub64 (x k) (y k) (borW x y k) bx.1 b_y.1 (by omega) hcar.1 hcar.2 w
      have hwa := hw1 k ss
      have hwb := hw2 k ss
      have HR : Hid (∀ (i : Nat) (h : i < (ss.setIfInBounds k (.int .u64 (difW x y k))).size), (ss.setIfInBounds k (.int .u64 (difW x y k)))[i]'h = Value.int .u64 (if i < k + 1 then difW x y i else 0)) := set_next hss
      clear hss hw1 hw2 hfin hmk hx hy
      go_wp2_with (first | (go_at_call_of 65 (Value.slice a n c); refine hwa.mono ?_; rintro e w' ⟨rfl, rfl⟩) | (go_at_call_of 65 (Value.slice a' n' c'); refine hwb.mono ?_; rintro e w' ⟨rfl, rfl⟩))
      go_roundw
      case rel => exact ⟨k + 1, ss.setIfInBounds k (.int .u64 (difW x y k)), by omega, by go_num, rfl, by simp [hsz], HR.out, rfl⟩
      case measure => simp [intOf]; omega
    · obtain rfl : k = M := by omega
      have hss' : ∀ j h, ss[j]'h = Value.int .u64 (difW x y j) := by
        intro j h; rw [hss j h, if_pos (by omega)]
      have hT := trim_any _ _ _ _ _ (by omega) (hfin ss hsz hss')
      have hle := sizeL_le (difZ x y (max n n')) k
      clear hss hss' hw1 hw2 hfin hmk hx hy
      go_wp2_with (go_at_call 66; refine hT.mono ?_; rintro e w1 ⟨g, cap, rfl, hN, hB⟩)
      go_ret
      exact ⟨g, _, cap, rfl, Nat.le_trans hle (Nat.le_of_eq HM.out.symm), hN, sizeL_sizeL _ _, (below1 w _).trans (hB.mono (by simp))⟩

/-- a natural number, of at most K words -/
def NV (K V : Nat) (v : Value) (w : World) : Prop := ∃ g k cap z, v = .slice (some ⟨g, 0, none⟩) k cap ∧ k ≤ K ∧ Num w (some ⟨g, 0, none⟩) k cap z ∧ val z k = (V : Int)
theorem NV.next {K V : Nat} {v : Value} {w w' : World} (h : NV K V v w) (hb : Below w.heap.size w w') : NV K V v w' := by
  obtain ⟨g, k, cap, z, h1, h2, h3, h4⟩ := h
  exact ⟨g, k, cap, z, h1, h2, h3.next hb, h4⟩
theorem NV.more {K K' V : Nat} {v : Value} {w : World} (h : NV K V v w) (hk : K ≤ K') : NV K' V v w := by
  obtain ⟨g, k, cap, z, h1, h2, h3, h4⟩ := h
  exact ⟨g, k, cap, z, h1, by omega, h3, h4⟩
theorem rright_nv {K A : Nat} {v : Value} {w : World} (s : Nat) (hK : K < 1000) (hs : s ≤ 600) (h : NV K A v w) :
    Calls Tryz.prog 62 #[v, .int .i64 s] w fun e w' => ∃ v' b, e = .returned (.tuple #[v', .bool b]) ∧ NV K (A / 2 ^ s) v' w' ∧ Below w.heap.size w w' := by
  obtain ⟨g, k, cap, z, rfl, hk, hN, hv⟩ := h
  obtain ⟨q, hq⟩ : ∃ q : Nat, (s : Int) / 64 = q := ⟨((s : Int) / 64).toNat, by omega⟩
  obtain ⟨r, hr⟩ : ∃ r : Nat, (s : Int) % 64 = r := ⟨((s : Int) % 64).toNat, by omega⟩
  have hsn : s = 64 * q + r := by omega
  have hr6 : r < 64 := by omega
  have key : ∀ (w' : World) (g' k' cap' : Nat), k' ≤ k → Num w' (some ⟨g', 0, none⟩) k' cap' (shrW z q r) → NV K (A / 2 ^ s) (.slice (some ⟨g', 0, none⟩) k' cap') w' := fun w' g' k' cap' hk' hN' => by
    refine ⟨g', k', cap', _, rfl, by omega, hN', ?_⟩
    rw [← val_more hN'.2.2.2.1 k hk', hsn]
    exact shrW_val hN.2.2.1 hN.2.2.2.1 hr6 k (Nat.le_refl _) hv
  by_cases h0 : r = 0
  · subst h0
    refine (right_z g 0 k cap q s z w (by omega) (by omega) hq (by omega) (by omega) hN).mono ?_
    rintro e w' ⟨g', k', cap', b, rfl, hk', hN', hb⟩
    exact ⟨_, b, rfl, key w' g' k' cap' hk' hN', hb⟩
  · refine (right_p g 0 k cap q r s z w (by omega) (by omega) hr6 (by omega) hq hr (by omega) hN).mono ?_
    rintro e w' ⟨g', k', cap', b, rfl, hk', hN', hb⟩
    exact ⟨_, b, rfl, key w' g' k' cap' hk' hN', hb⟩
theorem rleft_nv {K A : Nat} {v : Value} {w : World} (s : Nat) (hK : K < 1000) (hs : s ≤ 600) (h : NV K A v w) :
    Calls Tryz.prog 64 #[v, .int .i64 s] w fun e w' => ∃ v', e = .returned v' ∧ NV (K + 11) (A * 2 ^ s) v' w' ∧ Below w.heap.size w w' := by
  obtain ⟨g, k, cap, z, rfl, hk, hN, hv⟩ := h
  obtain ⟨q, hq⟩ : ∃ q : Nat, (s : Int) / 64 = q := ⟨((s : Int) / 64).toNat, by omega⟩
  obtain ⟨r, hr⟩ : ∃ r : Nat, (s : Int) % 64 = r := ⟨((s : Int) % 64).toNat, by omega⟩
  have hsn : s = 64 * q + r := by omega
  have hr6 : r < 64 := by omega
  have key : ∀ (w' : World) (g' k' cap' : Nat), k' ≤ k + q + 1 → Num w' (some ⟨g', 0, none⟩) k' cap' (finL z q r) → NV (K + 11) (A * 2 ^ s) (.slice (some ⟨g', 0, none⟩) k' cap') w' := fun w' g' k' cap' hk' hN' => by
    refine ⟨g', k', cap', _, rfl, by omega, hN', ?_⟩
    rw [← val_more hN'.2.2.2.1 (k + q + 1) hk', finL_val hN.2.2.1 hN.2.2.2.1 q hr6, hv, hsn]
    simp
  by_cases h0 : r = 0
  · subst h0
    refine (left_z g 0 k cap q s z w (by omega) (by omega) hq (by omega) (by omega) hN).mono ?_
    rintro e w' ⟨g', k', cap', rfl, hk', hN', hb⟩
    exact ⟨_, rfl, key w' g' k' cap' hk' hN', hb⟩
  · refine (left_p g 0 k cap q r s z w (by omega) (by omega) hr6 (by omega) hq hr (by omega) hN).mono ?_
    rintro e w' ⟨g', k', cap', rfl, hk', hN', hb⟩
    exact ⟨_, rfl, key w' g' k' cap' hk' hN', hb⟩
/-- a natural number without noughts at its end -/
def NT (K V : Nat) (v : Value) (w : World) : Prop := ∃ g k cap z, v = .slice (some ⟨g, 0, none⟩) k cap ∧ k ≤ K ∧ Num w (some ⟨g, 0, none⟩) k cap z ∧ val z k = (V : Int) ∧ sizeL z k = k
theorem NT.nv {K V : Nat} {v : Value} {w : World} (h : NT K V v w) : NV K V v w := by
  obtain ⟨g, k, cap, z, h1, h2, h3, h4, _⟩ := h
  exact ⟨g, k, cap, z, h1, h2, h3, h4⟩
theorem NT.next {K V : Nat} {v : Value} {w w' : World} (h : NT K V v w) (hb : Below w.heap.size w w') : NT K V v w' := by
  obtain ⟨g, k, cap, z, h1, h2, h3, h4, h5⟩ := h
  exact ⟨g, k, cap, z, h1, h2, h3.next hb, h4, h5⟩
theorem rless_nt {K K' A B : Nat} {v v' : Value} {w : World} (hK : K < 1000) (hK' : K' < 1000) (h : NV K A v w) (h' : NV K' B v' w) (hv : B ≤ A) :
    Calls Tryz.prog 63 #[v, v'] w fun e w' => ∃ r, e = .returned r ∧ NT (K + K') (A - B) r w' ∧ Below w.heap.size w w' := by
  obtain ⟨g, k, c, z, rfl, hk, hN, hz⟩ := h
  obtain ⟨g2, k2, c2, z2, rfl, hk2, hN2, hz2⟩ := h'
  refine (rless_tr _ _ k c k2 c2 z z2 w (by omega) (by omega) hN hN2).mono fun e w' ⟨g3, k3, cap3, e1, hk3, hN3, ht, hB⟩ => ⟨_, e1, ⟨g3, k3, cap3, _, rfl, by omega, hN3, ?_, ht⟩, hB⟩
  have ex := val_more hN.2.2.2.1 (max k k2) (by omega)
  have ey := val_more hN2.2.2.2.1 (max k k2) (by omega)
  have e := dif_val hN.2.2.1 hN2.2.2.1 (max k k2)
  rw [borW_end hN.2.2.1 hN2.2.2.1 (by omega), ex, ey] at e
  rw [← val_more hN3.2.2.2.1 _ hk3, val_congr (y := difW z z2) (max k k2) fun i hi => by unfold difZ; rw [if_pos hi]]
  omega
theorem radd_nv {K K' A B : Nat} {v v' : Value} {w : World} (hK : K < 1000000) (hK' : K' < 1000000) (h : NV K A v w) (h' : NV K' B v' w) :
    Calls Tryz.prog 35 #[v, v'] w fun e w' => ∃ r, e = .returned r ∧ NV (K + K' + 1) (A + B) r w' ∧ Below w.heap.size w w' := by
  obtain ⟨g, k, c, z, rfl, hk, hN, hz⟩ := h
  obtain ⟨g2, k2, c2, z2, rfl, hk2, hN2, hz2⟩ := h'
  refine (radd_val _ _ k c k2 c2 z z2 w (by omega) (by omega) hN hN2).mono fun e w' ⟨g3, k3, cap3, z3, e1, hk3, hN3, hv3, hB⟩ => ⟨_, e1, ⟨g3, k3, cap3, z3, rfl, by omega, hN3, ?_⟩, hB⟩
  rw [hv3, hz, hz2]; omega
theorem NT.zero {K V : Nat} {v : Value} {w : World} (h : NT K V v w) : ∃ g k cap, v = .slice (some ⟨g, 0, none⟩) k cap ∧ k ≤ K ∧ (k = 0 ↔ V = 0) := by
  obtain ⟨g, k, cap, z, h1, h2, h3, h4, h5⟩ := h
  refine ⟨g, k, cap, h1, h2, ?_⟩
  constructor
  · intro hk; subst hk
    have : val z 0 = 0 := rfl
    omega
  · intro hV
    rcases Nat.eq_zero_or_pos k with hk | hk
    · exact hk
    · exfalso
      have ht := sizeL_top (x := z) k (by omega)
      rw [h5] at ht
      obtain ⟨j, rfl⟩ : ∃ j, k = j + 1 := ⟨k - 1, by omega⟩
      have hs : val z (j + 1) = val z j + z j * 18446744073709551616 ^ j := rfl
      have hb := val_bd h3.2.2.1 j
      have hp := pw_pos j
      have hj := h3.2.2.1 j
      have hz : z j ≠ 0 := ht
      have : 1 * 18446744073709551616 ^ j ≤ z j * 18446744073709551616 ^ j := Int.mul_le_mul_of_nonneg_right (by omega) (Int.le_of_lt hp)
      omega
end Go.Proofs.YtkefmapcaggefaaGreatDoor

namespace Go.Proofs.YtkefmapcaggefaaGreatDoor
open Go.RowKit
attribute [local go_sem ↓] Go.wp_at_zero Go.wp_at_succ

theorem nv_low {k V : Nat} {z : Nat → Int} (hz : Words z) (h0 : ∀ i, k ≤ i → z i = 0) (hv : val z k = (V : Int)) : val z 4 = ((V % 2 ^ 256 : Nat) : Int) := by
  have h1 : val z (4 + k) = (V : Int) := by rw [val_more h0 (4 + k) (by omega), hv]
  rw [val_split z 4 k] at h1
  have hb := val_bd hz 4
  have e4 : (18446744073709551616 : Int) ^ 4 = ((2 ^ 256 : Nat) : Int) := by decide
  rw [e4] at h1 hb
  have h5 := congrArg (· % ((2 ^ 256 : Nat) : Int)) h1
  simp only [Int.add_mul_emod_self_right, Int.emod_eq_of_lt hb.1 hb.2] at h5
  rw [h5]
  rfl
set_option maxHeartbeats 1000000 in
theorem bits_num (g k cap : Nat) (z : Nat → Int) (w : World) (h : Num w (some ⟨g, 0, none⟩) k cap z) :
    Calls Tryz.prog 34 #[.slice (some ⟨g, 0, none⟩) k cap] w fun e w' => e = .returned (.agg (arrOf z 4)) ∧ Below w.heap.size w w' := by
  have hw := fun (i : Nat) (o1 o2 : Obj) => word_any (some ⟨g, 0, none⟩) k cap i z ((w.alloc o1).alloc o2) ((h.next (below1 w _)).next (below1 _ _))
  clear h
  go_enter Tryz.func34, Tryz.ntmps34
  go_wp2
  go_loopw [4, 5] (fun u4 i wr => ∃ (j : Nat) (ss : Array Value), j ≤ 4 ∧ i = .int .i64 j ∧ ss.size = 4 ∧ (∀ q h, ss[q]'h = Value.int .u64 (if q < j then z q else 0)) ∧ wr = (w.alloc (.cells #[.int .u64 0, .int .u64 0, .int .u64 0, .int .u64 0] 24)).alloc (.cells ss 24)) (fun _ i _ => 4 - (intOf i).toNat)
  case atStart => exact ⟨0, _, Nat.zero_le _, rfl, rfl, by intro q h; have h' : q < 4 := h; match q, h' with | 0, _ => rfl | 1, _ => rfl | 2, _ => rfl | 3, _ => rfl, rfl⟩
  case round =>
    obtain ⟨j, ss, hj, rfl, hsz, hss, rfl⟩ := hrel
    by_cases h4 : j < 4
    · have h4i : (j : Int) < 4 := by omega
      have h4s : j < ss.size := by omega
      have hsk : ss[j]? = some (.int .u64 0) := by rw [Array.getElem?_eq_getElem h4s, hss j h4s, if_neg (by omega)]
      have HR : Hid (∀ (i : Nat) (h : i < (ss.setIfInBounds j (.int .u64 (z j))).size), (ss.setIfInBounds j (.int .u64 (z j)))[i]'h = Value.int .u64 (if i < j + 1 then z i else 0)) := set_next hss
      have hwj := hw j (.cells #[.int .u64 0, .int .u64 0, .int .u64 0, .int .u64 0] 24) (.cells ss 24)
      clear hss hw
      go_wp2_with (go_at_call 65; refine hwj.mono ?_; rintro e w' ⟨rfl, rfl⟩)
      go_roundw
      case rel => exact ⟨j + 1, ss.setIfInBounds j (.int .u64 (z j)), by omega, by go_num, by simp [hsz], HR.out, rfl⟩
      case measure => simp [intOf]; omega
    · obtain rfl : j = 4 := by omega
      have hss' : ∀ q h, ss[q]'h = Value.int .u64 (z q) := by
        intro q h; rw [hss q h, if_pos (by omega)]
      clear hss hw
      go_wp2
      exact bodyPost_ret (v := .agg (arrOf z 4)) (by simp [results, Tryz.results34, go_sem]; rfl) rfl ⟨rfl, ((Below.refl _ _).alloc (Nat.le_refl _) _).alloc (by simp) _⟩
theorem bits_nv {K V : Nat} {v : Value} {w : World} (h : NV K V v w) :
    Calls Tryz.prog 34 #[v] w fun e w' => e = .returned (A4 V) ∧ Below w.heap.size w w' := by
  obtain ⟨g, k, cap, z, rfl, hk, hN, hv⟩ := h
  refine (bits_num g k cap z w hN).mono ?_
  rintro e w' ⟨rfl, hb⟩
  refine ⟨?_, hb⟩
  rw [arr_A4 hN.2.2.1 (nv_low hN.2.2.1 hN.2.2.2.1 hv)]
set_option maxHeartbeats 1000000 in
theorem number_nv {K V : Nat} {v : Value} {w : World} (h : NV K V v w) (hK : K < 1000) (hV : V < 9223372036854775808) :
    Calls Tryz.prog 33 #[v] w fun e w' => e = .returned (.int .i64 V) ∧ w' = w := by
  obtain ⟨g, k, cap, z, rfl, hk, hN, hv⟩ := h
  obtain ⟨h1, h2, h3, h4, h5⟩ := hN
  rcases h5 with ⟨h5, _⟩ | ⟨b, off, e, hb, hc⟩
  · cases h5
  · cases e
    rcases Nat.eq_zero_or_pos k with hk0 | hk0
    · subst hk0
      have : V = 0 := by have : val z 0 = 0 := rfl
                         omega
      subst this
      go_enter Tryz.func33, Tryz.ntmps33
      go_wp2
      go_ret
      exact ⟨rfl, rfl⟩
    · have hc0 := hc 0 hk0
      have hz0 := h3 0
      have e0 : z 0 = (V : Int) := by
        have hl := nv_low h3 h4 hv
        obtain ⟨j, rfl⟩ : ∃ j, k = 1 + j := ⟨k - 1, by omega⟩
        have hs := val_split z 1 j
        have hb2 := val_bd (segW_words h3 1 j) j
        have h10 : val z 1 = z 0 := by show val z 0 + z 0 * 18446744073709551616 ^ 0 = z 0; simp [val]
        rw [hv, h10] at hs
        simp only [Int.pow_one] at hs
        have hm : 0 ≤ val (segW z 1 j) j := hb2.1
        by_cases hp : 0 < val (segW z 1 j) j
        · exfalso; omega
        · have : val (segW z 1 j) j = 0 := by omega
          rw [this] at hs; omega
      have hk1 : ¬ ((k : Int) = 0) := by omega
      rw [e0] at hc0
      simp only [Nat.add_zero] at hc0
      have hkb : (k == 0) = false := by simp; omega
      have hki : (0 : Int) < k := by omega
      clear hc h3 h4 hv e0 hz0
      go_enter Tryz.func33, Tryz.ntmps33
      go_wp2
      go_ret
      exact ⟨rfl, rfl⟩
theorem box_nv {w0 w : World} {B : Nat} {t : TypeId} (hB : B < 2 ^ 256) (hb : Below (w0.alloc (.cells #[.int .u64 (W4 B 0), .int .u64 (W4 B 1), .int .u64 (W4 B 2), .int .u64 (W4 B 3)] t)).heap.size (w0.alloc (.cells #[.int .u64 (W4 B 0), .int .u64 (W4 B 1), .int .u64 (W4 B 2), .int .u64 (W4 B 3)] t)) w) :
    NV 4 B (.slice (some ⟨w0.heap.size, 0, none⟩) 4 4) w :=
  ⟨_, 4, 4, _, rfl, Nat.le_refl _, box_num (W4_words B) (A4_get B) hb, by
    rw [val_congr (x := lowW (W4 B) 4) (y := W4 B) 4 (fun i hi => lowW_lt hi), W4_val4 hB]⟩
set_option maxHeartbeats 1000000 in
theorem field_any (B at_ n : Nat) (w : World) (hB : B < 2 ^ 256) (ha : at_ ≤ 600) (hn : n ≤ 600) :
    Calls Tryz.prog 32 #[A4 B, .int .i64 at_, .int .i64 n] w fun e w' => ∃ r, e = .returned r ∧ NT 19 (B / 2 ^ at_ % 2 ^ n) r w' ∧ Below w.heap.size w w' := by
  have hbx := box_nv (w0 := w) (B := B) (t := 24) hB (Below.refl _ _)
  go_enter Tryz.func32, Tryz.ntmps32
  go_wp2_with (first
    | (have := hA2; go_at_call 64; refine (rleft_nv n (by decide) hn hh).mono ?_; rintro e w3 ⟨v3, rfl, hl, hb3⟩; replace hx := hx.next hb3; have hA3 := bnext hA2 hb3)
    | (have := hA1; go_at_call 62; refine (rright_nv n (by decide) hn hx).mono ?_; rintro e w2 ⟨v2, b2, rfl, hh, hb2⟩; replace hx := hx.next hb2; have hA2 := bnext hA1 hb2)
    | (go_at_call 62; refine (rright_nv at_ (by decide) ha hbx).mono ?_; rintro e w1 ⟨v1, b1, rfl, hx, hb1⟩; have hA1 := bnext (w0 := w) bgo hb1)
    | (go_at_call 63; refine (rless_nt (by decide) (by decide) hx hl (Nat.div_mul_le_self _ _)).mono ?_; rintro e w4 ⟨v4, rfl, hr, hb4⟩; have hA4 := bnext hA3 hb4))
  go_ret
  refine ⟨_, rfl, ?_, hA4⟩
  rw [show B / 2 ^ at_ % 2 ^ n = B / 2 ^ at_ - B / 2 ^ at_ / 2 ^ n * 2 ^ n by have := Nat.div_add_mod' (B / 2 ^ at_) (2 ^ n); omega]
  exact hr
end Go.Proofs.YtkefmapcaggefaaGreatDoor

namespace Go.Proofs.YtkefmapcaggefaaGreatDoor
open Go.RowKit

theorem nv_nt {K V : Nat} {v : Value} {w : World} (h : NV K V v w) : Nt K V v w := by
  obtain ⟨g, k, cap, z, h1, h2, h3, h4⟩ := h
  exact ⟨_, k, cap, z, h1, h2, h3, h4⟩
theorem bl_256 {B : Nat} (hB : B < 2 ^ 256) : bl B ≤ 51200 := Nat.le_trans (bl_le.2 hB) (by decide)
attribute [local irreducible] W4 Nt
end Go.Proofs.YtkefmapcaggefaaGreatDoor

namespace Go.Proofs.YtkefmapcaggefaaGreatDoor
open Go.RowKit

theorem A4_zero : A4 0 = Z4 := by
  unfold A4
  simp only [W4_zero]
end Go.Proofs.YtkefmapcaggefaaGreatDoor

namespace Go.Proofs.YtkefmapcaggefaaGreatDoor
open Go.RowKit

def sgN (n : Int) (s : Bool) : Nat := if s then 2 ^ (fN n + eN n) else 0
theorem pk_fin {n : Int} {s : Bool} {q : Int} {c : Nat} (hb : binN n) (h : isD (fN n) (leastN n) (mostN n) ⟨1, s, false, q, c⟩) : pkV n ⟨1, s, false, q, c⟩ = (q - leastN n).toNat * 2 ^ fN n + c + sgN n s := by
  unfold pkV sgN
  rw [if_pos ⟨hb, h⟩]
  unfold pk
  simp
theorem r_zero {n : Int} (d : Int) (s : Bool) (D : Nat) (x : Int) (hb : binN n) : rdV n d s 0 D x = sgN n s ∧ rdF n d s 0 D x = 0 := by
  have hF := bin_fm hb
  have hp := pow_e hF.e2 hF.e15
  have hm := hF.m
  have hz : isD (fN n) (leastN n) (mostN n) ⟨1, s, false, leastN n, 0⟩ := Or.inl ⟨rfl, rfl, Nat.two_pow_pos _, Int.le_refl _, by show leastN n ≤ mostN n; omega, Or.inr rfl⟩
  unfold rdV rdF
  rw [if_pos rfl, if_pos rfl, pk_fin hb hz]
  simp
end Go.Proofs.YtkefmapcaggefaaGreatDoor

namespace Go.Proofs.YtkefmapcaggefaaGreatDoor
open Go.RowKit

/-- what lies below a quarter -/
def tnB (d : Int) (s : Bool) : Bool := if d = 0 ∨ d = 1 then false else inB d s
theorem nr_tiny {d : Int} {s : Bool} {N D : Nat} {k : Int} (hN : N ≠ 0) (hD : D ≠ 0) (h : ld N D + k ≤ -2) : nrQ N D k = 0 ∧ nrF d s N D k = tnB d s ∧ nrR N D k ≠ 0 := by
  have key : N * 2 * 2 ^ k.toNat < D * 2 ^ (-k).toNat := by
    obtain ⟨K, hK⟩ : ∃ K : Nat, K = bl D + 1 + k.natAbs := ⟨_, rfl⟩
    obtain ⟨K1, hK1⟩ : ∃ K1 : Nat, (K1 : Int) = (K : Int) + k := ⟨((K : Int) + k).toNat, by omega⟩
    have key := cmp_sc (N * 2) D k K (by omega)
    rw [show ((K : Int) + k).toNat = K1 by omega] at key
    have hb := (ld_bd hN hD K1 (by omega)).2
    have hl1 : -(bl D : Int) ≤ ld N D := by
      have := (bl_bd hN).2.2
      unfold ld; dsimp only; split <;> omega
    refine key.2 ?_
    have h2 : D * 2 ^ (((K1 : Int) + ld N D + 1).toNat + 1) ≤ D * 2 ^ K := Nat.mul_le_mul_left _ (Nat.pow_le_pow_right (by decide) (by omega))
    rw [Nat.pow_succ, ← Nat.mul_assoc] at h2
    rw [Nat.mul_right_comm]
    omega
  have hA : N * 2 ^ k.toNat ≠ 0 := Nat.mul_ne_zero hN (Nat.pos_iff_ne_zero.1 (Nat.two_pow_pos _))
  rw [Nat.mul_right_comm] at key
  unfold nrF nrQ nrR
  generalize N * 2 ^ k.toNat = A at *
  generalize D * 2 ^ (-k).toNat = M at *
  have e1 : A / M = 0 := Nat.div_eq_of_lt (by omega)
  have e2 : A % M = A := Nat.mod_eq_of_lt (by omega)
  rw [e1, e2]
  refine ⟨rfl, ?_, hA⟩
  unfold faB tnB
  rw [if_neg hA]
  by_cases h0 : d = 0
  · rw [if_pos h0, if_pos (Or.inl h0), decide_eq_false (by omega), decide_eq_false (by omega)]; rfl
  · rw [if_neg h0]
    by_cases h1 : d = 1
    · rw [if_pos h1, if_pos (Or.inr h1), decide_eq_false (by omega)]
    · rw [if_neg h1, if_neg (by omega)]
end Go.Proofs.YtkefmapcaggefaaGreatDoor
