/-
  Texts that the proof leans on, joined: Rm, Fj, Rc.
-/
import Derived.Test.YtpfnfaekgaipjaaGreatDoorJ18
import Derived.Test.YtpfnfaekgaipjaaGreatDoorJ19
import Derived.Test.YtpfnfaekgaipjaaGreatDoorJ21
set_option linter.unusedVariables false
set_option linter.unusedSectionVars false
set_option linter.unusedSimpArgs false
set_option maxRecDepth 20000
namespace Go.Proofs.YtpfnfaekgaipjaaGreatDoor

theorem sc1 (a : Nat) (n : Int) (K : Nat) (h : 0 ≤ (K : Int) + n) : a * 2 ^ n.toNat * 2 ^ K = a * 2 ^ ((K : Int) + n).toNat * 2 ^ (-n).toNat := by
  have : n.toNat + K = ((K : Int) + n).toNat + (-n).toNat := by omega
  rw [Nat.mul_assoc, ← Nat.pow_add, Nat.mul_assoc, ← Nat.pow_add, this]
/-- a times 2^n against b, all exponents raised by K -/
theorem cmp_sc (a b : Nat) (n : Int) (K : Nat) (h : 0 ≤ (K : Int) + n) : a * 2 ^ n.toNat < b * 2 ^ (-n).toNat ↔ a * 2 ^ ((K : Int) + n).toNat < b * 2 ^ K := by
  have e := sc1 a n K h
  have p := Nat.two_pow_pos K
  have p2 := Nat.two_pow_pos (-n).toNat
  constructor
  · intro hlt
    have := Nat.mul_lt_mul_of_pos_right hlt p
    rw [e, Nat.mul_right_comm b] at this
    exact Nat.lt_of_mul_lt_mul_right this
  · intro hlt
    have := Nat.mul_lt_mul_of_pos_right hlt p2
    rw [← e, Nat.mul_right_comm b] at this
    exact Nat.lt_of_mul_lt_mul_right this
theorem bl_bd {V : Nat} (h : V ≠ 0) : 2 ^ (bl V - 1) ≤ V ∧ V < 2 ^ bl V ∧ 1 ≤ bl V := by
  have h0 : bl V ≠ 0 := fun e => h (bl_zero.1 e)
  exact ⟨bl_ge.1 (by omega), bl_le.1 (Nat.le_refl _), by omega⟩
theorem ld_bd {N D : Nat} (hN : N ≠ 0) (hD : D ≠ 0) (K : Nat) (hK : (bl D : Int) + 1 ≤ K) :
    D * 2 ^ ((K : Int) + ld N D).toNat ≤ N * 2 ^ K ∧ N * 2 ^ K < D * 2 ^ ((K : Int) + ld N D + 1).toNat := by
  obtain ⟨n1, n2, n3⟩ := bl_bd hN
  obtain ⟨d1, d2, d3⟩ := bl_bd hD
  have pK := Nat.two_pow_pos K
  obtain ⟨K', hK'⟩ : ∃ K' : Nat, (K' : Int) = (K : Int) + ((bl N : Int) - bl D) := ⟨((K : Int) + ((bl N : Int) - bl D)).toNat, by omega⟩
  have key := cmp_sc N D (-((bl N : Int) - bl D)) K' (by omega)
  rw [Int.neg_neg, show ((K' : Int) + -((bl N : Int) - bl D)).toNat = K by omega] at key
  unfold ld
  dsimp only
  by_cases hc : N * 2 ^ (-((bl N : Int) - bl D)).toNat < D * 2 ^ ((bl N : Int) - bl D).toNat
  · rw [if_pos hc]
    have h1 := key.1 hc
    refine ⟨?_, ?_⟩
    · rw [show ((K : Int) + ((bl N : Int) - bl D - 1)).toNat = K' - 1 by omega]
      have a1 : D * 2 ^ (K' - 1) ≤ 2 ^ bl D * 2 ^ (K' - 1) := Nat.mul_le_mul_right _ (Nat.le_of_lt d2)
      have a2 : 2 ^ (bl N - 1) * 2 ^ K ≤ N * 2 ^ K := Nat.mul_le_mul_right _ n1
      rw [← Nat.pow_add] at a1 a2
      rw [show bl D + (K' - 1) = bl N - 1 + K by omega] at a1
      exact Nat.le_trans a1 a2
    · rw [show ((K : Int) + ((bl N : Int) - bl D - 1) + 1).toNat = K' by omega]
      exact h1
  · rw [if_neg hc]
    have h1 : D * 2 ^ K' ≤ N * 2 ^ K := Nat.le_of_not_lt fun h => hc (key.2 h)
    refine ⟨?_, ?_⟩
    · rw [show ((K : Int) + ((bl N : Int) - bl D)).toNat = K' by omega]
      exact h1
    · rw [show ((K : Int) + ((bl N : Int) - bl D) + 1).toNat = K' + 1 by omega]
      have a1 : N * 2 ^ K < 2 ^ bl N * 2 ^ K := Nat.mul_lt_mul_of_pos_right n2 pK
      have a2 : 2 ^ (bl D - 1) * 2 ^ (K' + 1) ≤ D * 2 ^ (K' + 1) := Nat.mul_le_mul_right _ d1
      rw [← Nat.pow_add] at a1 a2
      rw [show bl D - 1 + (K' + 1) = bl N + K by omega] at a2
      exact Nat.lt_of_lt_of_le a1 a2
theorem nrQ_lt {N D : Nat} (hN : N ≠ 0) (hD : D ≠ 0) {n : Int} {f : Nat} (h : ld N D + n ≤ f) : nrQ N D n < 2 ^ (f + 1) := by
  unfold nrQ
  apply Nat.div_lt_of_lt_mul
  obtain ⟨K, hK⟩ : ∃ K : Nat, K = bl D + 1 + n.natAbs := ⟨_, rfl⟩
  obtain ⟨K1, hK1⟩ : ∃ K1 : Nat, (K1 : Int) = (K : Int) + n := ⟨((K : Int) + n).toNat, by omega⟩
  have key := cmp_sc N (D * 2 ^ (f + 1)) n K (by omega)
  rw [show ((K : Int) + n).toNat = K1 by omega] at key
  have hb := (ld_bd hN hD K1 (by omega)).2
  have hle : D * 2 ^ ((K1 : Int) + ld N D + 1).toNat ≤ D * 2 ^ (f + 1) * 2 ^ K := by
    rw [Nat.mul_assoc, ← Nat.pow_add]
    exact Nat.mul_le_mul_left _ (Nat.pow_le_pow_right (by decide) (by omega))
  have := key.2 (Nat.lt_of_lt_of_le hb hle)
  rw [Nat.mul_right_comm] at this
  exact this
theorem nrQ_ge {N D : Nat} (hN : N ≠ 0) (hD : D ≠ 0) {n : Int} {f : Nat} (h : ld N D + n = f) : 2 ^ f ≤ nrQ N D n := by
  unfold nrQ
  have hpos : 0 < D * 2 ^ (-n).toNat := Nat.mul_pos (by omega) (Nat.two_pow_pos _)
  rw [Nat.le_div_iff_mul_le hpos]
  apply Nat.le_of_not_lt
  intro hlt
  obtain ⟨K, hK⟩ : ∃ K : Nat, K = bl D + 1 + n.natAbs := ⟨_, rfl⟩
  obtain ⟨K1, hK1⟩ : ∃ K1 : Nat, (K1 : Int) = (K : Int) + n := ⟨((K : Int) + n).toNat, by omega⟩
  have key := cmp_sc N (D * 2 ^ f) n K (by omega)
  rw [show ((K : Int) + n).toNat = K1 by omega] at key
  have hb := (ld_bd hN hD K1 (by omega)).1
  rw [show 2 ^ f * (D * 2 ^ (-n).toNat) = D * 2 ^ f * 2 ^ (-n).toNat by rw [← Nat.mul_assoc, Nat.mul_comm (2 ^ f) D]] at hlt
  have h2 := key.1 hlt
  rw [Nat.mul_assoc, ← Nat.pow_add, show f + K = ((K1 : Int) + ld N D).toNat by omega] at h2
  omega
end Go.Proofs.YtpfnfaekgaipjaaGreatDoor

namespace Go.Proofs.YtpfnfaekgaipjaaGreatDoor
open Go.RowKit

theorem finite_v (n : Int) (nm : ByteArray) (wd : Int) (f e : Nat) (l m : Int) (s : Bool) (x fl : Int) {K C : Nat} {v : Value} {w : World} (hT : Tab w) (h : Nz K C v w) (hC : C < 2 ^ 256) :
    Calls Tryz.prog 78 #[DI n nm wd f e l m, .bool s, v, .int .i64 x, .int .i64 fl] w fun r w' => r = .returned (.tuple #[A4 (pkV n ⟨1, s, false, x, C⟩), .int .i64 fl, .int .i64 (pkE n ⟨1, s, false, x, C⟩)]) ∧ Below w.heap.size w w' := by
  obtain ⟨a, k, cap, z, rfl, hk, hN, hv, hs⟩ := h
  have hk4 : k ≤ 4 := by
    have := (size_bl (m := 4) hN.2.2.1 hv).2 (bl_le.2 hC)
    omega
  have hv4 : val z 4 = (C : Int) := by rw [val_more hN.2.2.2.1 4 hk4, hv]
  have hz : ∀ i, i < 4 → z i = W4 C i := val_inj hN.2.2.1 (W4_words C) 4 (by rw [hv4, W4_val4 hC])
  have c56 := fun W hT => pack_any n ⟨1, s, false, x, C⟩ W hT hC
  have ed : (Dat.mk 1 s false x C).v = .agg #[.int .i64 1, .bool s, .bool false, .int .i64 x, .int .u64 (z 0), .int .u64 (z 1), .int .u64 (z 2), .int .u64 (z 3)] := by
    unfold Dat.v DV
    rw [hz 0 (by decide), hz 1 (by decide), hz 2 (by decide), hz 3 (by decide)]
  rw [ed] at c56
  have z0 := hN.2.2.2.1
  generalize pkV n ⟨1, s, false, x, C⟩ = R at *
  generalize pkE n ⟨1, s, false, x, C⟩ = E at *
  obtain ⟨n1, n2, n3, n4, n5⟩ := hN
  rcases n5 with ⟨rfl, rfl⟩ | ⟨b, off, rfl, hb, hc⟩
  · obtain rfl : k = 0 := by omega
    rw [z0 0 (by omega), z0 1 (by omega), z0 2 (by omega), z0 3 (by omega)] at c56
    exact fin_n n nm wd f e l m s x fl E R w hT c56
  · have : k = 0 ∨ k = 1 ∨ k = 2 ∨ k = 3 ∨ k = 4 := by omega
    rcases this with rfl | rfl | rfl | rfl | rfl
    · rw [z0 0 (by omega), z0 1 (by omega), z0 2 (by omega), z0 3 (by omega)] at c56
      exact fin_0 n nm wd f e l m s x fl E R w hT b off cap hb c56
    · rw [z0 1 (by omega), z0 2 (by omega), z0 3 (by omega)] at c56
      exact fin_1 n nm wd f e l m s x fl E R z w hT b off cap hb (hc 0 (by decide)) c56
    · rw [z0 2 (by omega), z0 3 (by omega)] at c56
      exact fin_2 n nm wd f e l m s x fl E R z w hT b off cap hb (hc 0 (by decide)) (hc 1 (by decide)) c56
    · rw [z0 3 (by omega)] at c56
      exact fin_3 n nm wd f e l m s x fl E R z w hT b off cap hb (hc 0 (by decide)) (hc 1 (by decide)) (hc 2 (by decide)) c56
    · exact fin_4 n nm wd f e l m s x fl E R z w hT b off cap hb (hc 0 (by decide)) (hc 1 (by decide)) (hc 2 (by decide)) (hc 3 (by decide)) c56
end Go.Proofs.YtpfnfaekgaipjaaGreatDoor

namespace Go.Proofs.YtpfnfaekgaipjaaGreatDoor
open Go.RowKit

/-- the exponent within reach, the unit's exponent, the coefficient, and both behind the carry -/
def rX (n : Int) (N D : Nat) (x : Int) : Int := wiZ (fN n) (leastN n) (mostN n) (ld N D) x
def rQ (n : Int) (N D : Nat) (x : Int) : Int := max (leastN n) (ld N D + rX n N D x - ((fN n : Int) + 1) + 1)
def rC (n d : Int) (s : Bool) (N D : Nat) (x : Int) : Nat := nrC d s N D (rX n N D x - rQ n N D x)
def rC' (n d : Int) (s : Bool) (N D : Nat) (x : Int) : Nat := if (fN n : Int) + 1 < (bl (rC n d s N D x) : Int) then rC n d s N D x / 2 else rC n d s N D x
def rQ' (n d : Int) (s : Bool) (N D : Nat) (x : Int) : Int := if (fN n : Int) + 1 < (bl (rC n d s N D x) : Int) then rQ n N D x + 1 else rQ n N D x
/-- the pattern and the flags -/
def rdV (n d : Int) (s : Bool) (N D : Nat) (x : Int) : Nat := if N = 0 then pkV n ⟨1, s, false, leastN n, 0⟩ else if mostN n < rQ' n d s N D x then (if inB d s then pkV n ⟨2, s, false, 0, 0⟩ else lgV n s) else pkV n ⟨1, s, false, rQ' n d s N D x, rC' n d s N D x⟩
def rdF (n d : Int) (s : Bool) (N D : Nat) (x : Int) : Int := if N = 0 then 0 else if mostN n < rQ' n d s N D x then 10 else if decide (nrR N D (rX n N D x - rQ n N D x) = 0) then 0 else if decide (ld N D + rX n N D x < (fN n : Int) + leastN n) then 12 else 8
theorem bin_more' {n : Int} (h : binN n) : numN n = n ∧ denseN n = false := by
  rcases bin_cases h with rfl | rfl | rfl | rfl | rfl | rfl <;> exact ⟨by decide, by decide⟩
theorem dof_bin {n : Int} (hb : binN n) (w : World) (hT : Tab w) : Calls Tryz.prog 41 #[.int .i64 n] w fun x w' => x = .returned (.tuple #[DI n (nameN n) (widthN n) (fN n) (eN n) (leastN n) (mostN n), .int .i64 0]) ∧ Below w.heap.size w w' := by
  obtain ⟨hok, hb2, hpr, hex, hwd, hpy⟩ := bin_fields hb
  obtain ⟨hnum, hden⟩ := bin_more' hb
  have c := ofv_any n w hT
  rw [show infoE n = 0 from if_pos hok, hnum, hb2, hpr, hex, hden, hpy] at c
  exact c
theorem nz_nil (w : World) : Nz 0 0 (.slice none 0 0) w :=
  ⟨none, 0, 0, fun _ => 0, rfl, Nat.le_refl _, ⟨Nat.le_refl _, by unfold maxLen; omega, fun i => ⟨Int.le_refl _, (by decide : (0 : Int) ≤ 18446744073709551615)⟩, fun _ _ => rfl, Or.inl ⟨rfl, rfl⟩⟩, rfl, rfl⟩
/-- the datum that comes out is the format's -/
theorem r_isD {n d : Int} {s : Bool} {N D : Nat} {x : Int} (hb : binN n) (hN : N ≠ 0) (hD : D ≠ 0) (ho : ¬ mostN n < rQ' n d s N D x) : isD (fN n) (leastN n) (mostN n) ⟨1, s, false, rQ' n d s N D x, rC' n d s N D x⟩ := by
  have hq : leastN n ≤ rQ n N D x := Int.le_max_left _ _
  have hq2 : ld N D + (rX n N D x - rQ n N D x) ≤ (fN n : Int) := by unfold rQ; omega
  have hlt := nrQ_lt hN hD hq2
  have hge : rQ n N D x ≠ leastN n → 2 ^ fN n ≤ nrQ N D (rX n N D x - rQ n N D x) := fun h => nrQ_ge hN hD (by unfold rQ at h ⊢; omega)
  have hC : rC n d s N D x = nrQ N D (rX n N D x - rQ n N D x) ∨ rC n d s N D x = nrQ N D (rX n N D x - rQ n N D x) + 1 := by
    unfold rC nrC
    cases nrF d s N D (rX n N D x - rQ n N D x)
    · exact Or.inl rfl
    · exact Or.inr rfl
  have hs : 2 ^ (fN n + 1) = 2 ^ fN n + 2 ^ fN n := by rw [Nat.pow_succ]; omega
  have hu : (fN n : Int) + 1 < (bl (rC n d s N D x) : Int) ↔ 2 ^ (fN n + 1) ≤ rC n d s N D x := by
    rw [← bl_ge]; omega
  unfold rQ' rC' at *
  by_cases h : (fN n : Int) + 1 < (bl (rC n d s N D x) : Int)
  · rw [if_pos h] at ho
    have h2 := hu.1 h
    have e : rC n d s N D x = 2 ^ (fN n + 1) := by omega
    rw [if_pos h, if_pos h]
    exact Or.inl ⟨rfl, rfl, by show rC n d s N D x / 2 < _; omega, by show leastN n ≤ rQ n N D x + 1; omega, by show rQ n N D x + 1 ≤ _; omega, Or.inl (by show 2 ^ fN n ≤ rC n d s N D x / 2; omega)⟩
  · rw [if_neg h] at ho
    have h2 := mt hu.2 h
    rw [if_neg h, if_neg h]
    refine Or.inl ⟨rfl, rfl, by show rC n d s N D x < _; omega, hq, by show rQ n N D x ≤ _; omega, ?_⟩
    by_cases h3 : rQ n N D x = leastN n
    · exact Or.inr h3
    · have := hge h3
      exact Or.inl (by show 2 ^ fN n ≤ rC n d s N D x; omega)
theorem wi_bd {n : Int} {L x : Int} (hb : binN n) (hL : -60000 ≤ L ∧ L ≤ 60000) : -300000 ≤ wiZ (fN n) (leastN n) (mostN n) L x ∧ wiZ (fN n) (leastN n) (mostN n) L x ≤ 300000 ∧ -100000 ≤ leastN n ∧ leastN n ≤ 100000 ∧ -100000 ≤ mostN n ∧ mostN n ≤ 100000 ∧ L + wiZ (fN n) (leastN n) (mostN n) L x ≤ 100000 ∧ -100000 ≤ L + wiZ (fN n) (leastN n) (mostN n) L x := by
  unfold wiZ
  rcases bin_cases hb with rfl | rfl | rfl | rfl | rfl | rfl
  all_goals
    simp [leastN, mostN, fN, precN]
    omega
theorem ld_ab {N D : Nat} (h1 : bl N ≤ 51200) (h2 : bl D ≤ 51200) : -60000 ≤ ld N D ∧ ld N D ≤ 60000 := by
  unfold ld
  dsimp only
  split <;> omega
theorem rnd_good (n d x : Int) (s : Bool) {N D : Nat} {vn vd : Value} {w : World} (hT : Tab w) (hn : Nt 2001 N vn w) (hd : Nt 2001 D vd w) (hb : binN n) (hk : knB d) (hD : D ≠ 0) (h1 : bl N ≤ 51200) (h2 : bl D ≤ 51200) :
    Calls Tryz.prog 52 #[.int .i64 n, .int .i64 d, .bool s, vn, vd, .int .i64 x] w fun r w' => r = .returned (.tuple #[A4 (rdV n d s N D x), .int .i64 (rdF n d s N D x), .int .i64 0]) ∧ Below w.heap.size w w' := by
  have hF := bin_fm hb
  have hf240 := hF.f240
  have c26 := fun W (hb' : Below w.heap.size w W) => nlen_v (by decide) (hn.next hb')
  have c26d := fun W (hb' : Below w.heap.size w W) => nlen_v (by decide) (hd.next hb')
  have hDb : (((bl D : Nat) : Int) == 0) = false := by
    have : bl D ≠ 0 := fun e => hD (bl_zero.1 e)
    rw [beq_eq_false_iff_ne]; omega
  have c25 : ∀ W, Below w.heap.size w W → Calls Tryz.prog 77 #[.int .i64 n, .int .i64 d, vn, vd] W fun r w' => r = .returned (.tuple #[DI n (nameN n) (widthN n) (fN n) (eN n) (leastN n) (mostN n), .int .i64 0]) ∧ Below W.heap.size W w' := fun W hW =>
    check_k n d _ _ _ _ _ _ N D vn vd W (hT.go hW) (fun W' h' => c26 W' (bnx hW h')) (fun W' h' => c26d W' (bnx hW h')) (decide_eq_true hk) hDb (by omega) (by omega) (fun W' hT' => dof_bin hb W' hT')
  unfold rdV rdF
  by_cases hz : N = 0
  · rw [if_pos hz, if_pos hz]
    have hp := pow_e hF.e2 hF.e15
    have hm := hF.m
    have hi : isD (fN n) (leastN n) (mostN n) ⟨1, s, false, leastN n, 0⟩ := Or.inl ⟨rfl, rfl, Nat.two_pow_pos _, Int.le_refl _, by show leastN n ≤ mostN n; omega, Or.inr rfl⟩
    have e : pkE n ⟨1, s, false, leastN n, 0⟩ = 0 := by unfold pkE; rw [if_pos hb, if_pos hi]
    refine binary_z n d x s vn vd w hT _ _ _ _ _ _ N _ _ c25 c26 (by rw [hz]; decide) fun W hT' => ?_
    have := finite_v n (nameN n) (widthN n) (fN n) (eN n) (leastN n) (mostN n) s (leastN n) 0 hT' (nz_nil W) (by decide)
    rw [e] at this
    exact this
  · rw [if_neg hz, if_neg hz]
    have hN0 : (((bl N : Nat) : Int) == 0) = false := by
      have : bl N ≠ 0 := fun e => hz (bl_zero.1 e)
      rw [beq_eq_false_iff_ne]; omega
    have hL := ld_ab h1 h2
    obtain ⟨w1, w2, w3, w4, w5, w6, w7, w8⟩ := wi_bd (x := x) hb hL
    have hq0 : rQ n N D x = max (leastN n) (ld N D + rX n N D x - ((fN n : Int) + 1) + 1) := rfl
    have c28 := fun W (hb' : Below w.heap.size w W) => leading_v (hn.next hb') (hd.next hb') h1 h2
    have c29 := fun W => within_any n (nameN n) (widthN n) (fN n) (eN n) (leastN n) (mostN n) (ld N D) x W (by omega) ⟨w3, w4⟩ ⟨w5, w6⟩ (by omega)
    have hX : rX n N D x = wiZ (fN n) (leastN n) (mostN n) (ld N D) x := rfl
    rw [← hX] at w1 w2 w7 w8
    have hbn : (bl N : Int) + (rX n N D x - rQ n N D x) ≤ 127000 ∧ (bl D : Int) - (rX n N D x - rQ n N D x) ≤ 127000 := by
      have hl2 : (bl N : Int) - bl D - 1 ≤ ld N D ∧ ld N D ≤ (bl N : Int) - bl D := by
        unfold ld; dsimp only; split <;> omega
      have hp := pow_e hF.e2 hF.e15
      have hm := hF.m
      have hr : leastN n - 2 - ld N D ≤ rX n N D x := by rw [hX]; unfold wiZ; omega
      rw [hq0]; omega
    have c30 : ∀ W k, k = rX n N D x - rQ n N D x → Below w.heap.size w W → Calls Tryz.prog 81 #[.int .i64 d, .bool s, vn, vd, .int .i64 k] W fun r w' => ∃ v, r = .returned (.tuple #[v, .bool (decide (nrR N D (rX n N D x - rQ n N D x) = 0))]) ∧ Nz 2003 (rC n d s N D x) v w' ∧ Below W.heap.size W w' := fun W k hk' hb' => by
      subst hk'
      exact nearby_v d _ s (hn.next hb') (hd.next hb') hD hbn.1 hbn.2 (by omega) (by omega)
    have hup : (fN n : Int) + 1 < (bl (rC n d s N D x) : Int) → rC' n d s N D x = rC n d s N D x / 2 ∧ rQ' n d s N D x = rQ n N D x + 1 := fun h => ⟨if_pos h, if_pos h⟩
    have hno : ¬ (fN n : Int) + 1 < (bl (rC n d s N D x) : Int) → rC' n d s N D x = rC n d s N D x ∧ rQ' n d s N D x = rQ n N D x := fun h => ⟨if_neg h, if_neg h⟩
    have c26c := fun W v (h : Nz 2003 (rC n d s N D x) v W) => nlen_v (by decide) h.nt
    have c31 := fun W v (h : Nz 2003 (rC n d s N D x) v W) => nshr_v (by decide) h.nt
    by_cases ho : mostN n < rQ' n d s N D x
    · rw [if_pos ho, if_pos ho]
      refine binary_o n d x s vn vd w hT _ _ _ _ _ _ N (rC n d s N D x) _ _ _ (ld N D) (rX n N D x) (rQ n N D x) _ c25 c26 (by omega) ⟨w3, w4⟩ ⟨w5, w6⟩ (by omega) ⟨w1, w2⟩ hq0 hN0 c28 c29 c30 c26c c31 _ _ hup hno ho ?_
      intro W hT'
      by_cases hi : inB d s = true
      · rw [if_pos hi]
        have hd2 : isD (fN n) (leastN n) (mostN n) ⟨2, s, false, 0, 0⟩ := Or.inr (Or.inl ⟨rfl, rfl, rfl, rfl⟩)
        have e : pkE n ⟨2, s, false, 0, 0⟩ = 0 := by unfold pkE; rw [if_pos hb, if_pos hd2]
        refine overflow_i n _ _ _ _ _ _ d s _ _ W hT' hi fun W' hT2 => ?_
        have := pack_any n ⟨2, s, false, 0, 0⟩ W' hT2 (by show 0 < 2 ^ 256; decide)
        rw [e] at this
        unfold Dat.v DV at this
        simp only [W4_zero] at this
        exact this
      · rw [if_neg hi]
        refine overflow_l n _ _ _ _ _ _ d s _ _ W hT' (by simpa using hi) fun W' hT2 => ?_
        have := largest_any n s W' hT2
        rw [show lgE n = 0 from if_pos hb] at this
        exact this
    · rw [if_neg ho, if_neg ho]
      have hi := r_isD (s := s) hb hz hD ho
      have e : pkE n ⟨1, s, false, rQ' n d s N D x, rC' n d s N D x⟩ = 0 := by unfold pkE; rw [if_pos hb, if_pos hi]
      have hC : rC' n d s N D x < 2 ^ 256 := by
        rcases hi with ⟨_, _, hk1, _⟩ | ⟨hc, _⟩ | ⟨hc, _⟩
        · exact Nat.lt_of_lt_of_le hk1 (Nat.pow_le_pow_right (by decide) (by omega))
        · exact absurd (show (1 : Int) = 2 from hc) (by decide)
        · exact absurd (show (1 : Int) = 3 from hc) (by decide)
      refine binary_f n d x s vn vd w hT _ _ _ _ _ _ N (rC n d s N D x) _ _ _ (ld N D) (rX n N D x) (rQ n N D x) _ c25 c26 (by omega) ⟨w3, w4⟩ ⟨w5, w6⟩ (by omega) ⟨w1, w2⟩ hq0 hN0 c28 c29 c30 c26c c31 _ _ hup hno ho 0 rfl ?_
      intro W v hT' hv
      have := finite_v n (nameN n) (widthN n) (fN n) (eN n) (leastN n) (mostN n) s (rQ' n d s N D x) (if decide (nrR N D (rX n N D x - rQ n N D x) = 0) then 0 else if decide (ld N D + rX n N D x < (fN n : Int) + leastN n) then 12 else 8) hT' hv hC
      rw [e] at this
      exact this
end Go.Proofs.YtpfnfaekgaipjaaGreatDoor
