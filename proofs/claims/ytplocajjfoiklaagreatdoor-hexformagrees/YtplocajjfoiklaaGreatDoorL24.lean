/-
  Texts that the proof leans on, joined: Rm, Fj, Rc, Rf, Wa, Wm, Wb, Npo, Nrd.
-/
import Derived.Test.YtplocajjfoiklaaGreatDoorL18
import Derived.Test.YtplocajjfoiklaaGreatDoorL21
import Derived.Test.YtplocajjfoiklaaGreatDoorL23
import Derived.Test.YtplocajjfoiklaaGreatDoorL12
import Derived.Test.YtplocajjfoiklaaGreatDoorL15
import Derived.Test.YtplocajjfoiklaaGreatDoorL13
import Derived.Test.YtplocajjfoiklaaGreatDoorL7
import Derived.Test.YtplocajjfoiklaaGreatDoorL5
import Derived.Test.YtplocajjfoiklaaGreatDoorL1
import Derived.Test.YtplocajjfoiklaaGreatDoorL2
import Derived.Test.YtplocajjfoiklaaGreatDoorL19
import Derived.Test.YtplocajjfoiklaaGreatDoorL20
import Derived.Deep.Cut
import Derived.Deep.CutRange
import Derived.Lib.RabinKarpLaws
import Derived.Test.YtplocajjfoiklaaGreatDoorL16
set_option linter.unusedVariables false
set_option linter.unusedSectionVars false
set_option linter.unusedSimpArgs false
set_option maxRecDepth 20000
namespace Go.Proofs.YtplocajjfoiklaaGreatDoor

theorem sc1 (a : Nat) (n : Int) (K : Nat) (h : 0 ≤ (K : Int) + n) : a * 2 ^ n.toNat * 2 ^ K = a * 2 ^ ((K : Int) + n).toNat * 2 ^ (-n).toNat := by
  have : n.toNat + K = ((K : Int) + n).toNat + (-n).toNat := by omega
  rw [Nat.mul_assoc, ← Nat.pow_add, Nat.mul_assoc, ← Nat.pow_add, this]
/-- a times 2^n against b, all exponents raised by K -/
theorem cmp_sc (a b : Nat) (n : Int) (K : Nat) (h : 0 ≤ (K : Int) + n) : a * 2 ^ n.toNat < b * 2 ^ (-n).toNat ↔ a * 2 ^ ((K : Int) + n).toNat < b * 2 ^ K := by
  have e := sc1 a n K h
  have p := Nat.two_pow_pos K
  have p2 := Nat.two_pow_pos (-n).toNat
  constructor
  · intro hlt
    have := Nat.mul_lt_mul_of_pos_right hlt p
    rw [e, Nat.mul_right_comm b] at this
    exact Nat.lt_of_mul_lt_mul_right this
  · intro hlt
    have := Nat.mul_lt_mul_of_pos_right hlt p2
    rw [← e, Nat.mul_right_comm b] at this
    exact Nat.lt_of_mul_lt_mul_right this
theorem bl_bd {V : Nat} (h : V ≠ 0) : 2 ^ (bl V - 1) ≤ V ∧ V < 2 ^ bl V ∧ 1 ≤ bl V := by
  have h0 : bl V ≠ 0 := fun e => h (bl_zero.1 e)
  exact ⟨bl_ge.1 (by omega), bl_le.1 (Nat.le_refl _), by omega⟩
theorem ld_bd {N D : Nat} (hN : N ≠ 0) (hD : D ≠ 0) (K : Nat) (hK : (bl D : Int) + 1 ≤ K) :
    D * 2 ^ ((K : Int) + ld N D).toNat ≤ N * 2 ^ K ∧ N * 2 ^ K < D * 2 ^ ((K : Int) + ld N D + 1).toNat := by
  obtain ⟨n1, n2, n3⟩ := bl_bd hN
  obtain ⟨d1, d2, d3⟩ := bl_bd hD
  have pK := Nat.two_pow_pos K
  obtain ⟨K', hK'⟩ : ∃ K' : Nat, (K' : Int) = (K : Int) + ((bl N : Int) - bl D) := ⟨((K : Int) + ((bl N : Int) - bl D)).toNat, by omega⟩
  have key := cmp_sc N D (-((bl N : Int) - bl D)) K' (by omega)
  rw [Int.neg_neg, show ((K' : Int) + -((bl N : Int) - bl D)).toNat = K by omega] at key
  unfold ld
  dsimp only
  by_cases hc : N * 2 ^ (-((bl N : Int) - bl D)).toNat < D * 2 ^ ((bl N : Int) - bl D).toNat
  · rw [if_pos hc]
    have h1 := key.1 hc
    refine ⟨?_, ?_⟩
    · rw [show ((K : Int) + ((bl N : Int) - bl D - 1)).toNat = K' - 1 by omega]
      have a1 : D * 2 ^ (K' - 1) ≤ 2 ^ bl D * 2 ^ (K' - 1) := Nat.mul_le_mul_right _ (Nat.le_of_lt d2)
      have a2 : 2 ^ (bl N - 1) * 2 ^ K ≤ N * 2 ^ K := Nat.mul_le_mul_right _ n1
      rw [← Nat.pow_add] at a1 a2
      rw [show bl D + (K' - 1) = bl N - 1 + K by omega] at a1
      exact Nat.le_trans a1 a2
    · rw [show ((K : Int) + ((bl N : Int) - bl D - 1) + 1).toNat = K' by omega]
      exact h1
  · rw [if_neg hc]
    have h1 : D * 2 ^ K' ≤ N * 2 ^ K := Nat.le_of_not_lt fun h => hc (key.2 h)
    refine ⟨?_, ?_⟩
    · rw [show ((K : Int) + ((bl N : Int) - bl D)).toNat = K' by omega]
      exact h1
    · rw [show ((K : Int) + ((bl N : Int) - bl D) + 1).toNat = K' + 1 by omega]
      have a1 : N * 2 ^ K < 2 ^ bl N * 2 ^ K := Nat.mul_lt_mul_of_pos_right n2 pK
      have a2 : 2 ^ (bl D - 1) * 2 ^ (K' + 1) ≤ D * 2 ^ (K' + 1) := Nat.mul_le_mul_right _ d1
      rw [← Nat.pow_add] at a1 a2
      rw [show bl D - 1 + (K' + 1) = bl N + K by omega] at a2
      exact Nat.lt_of_lt_of_le a1 a2
theorem nrQ_lt {N D : Nat} (hN : N ≠ 0) (hD : D ≠ 0) {n : Int} {f : Nat} (h : ld N D + n ≤ f) : nrQ N D n < 2 ^ (f + 1) := by
  unfold nrQ
  apply Nat.div_lt_of_lt_mul
  obtain ⟨K, hK⟩ : ∃ K : Nat, K = bl D + 1 + n.natAbs := ⟨_, rfl⟩
  obtain ⟨K1, hK1⟩ : ∃ K1 : Nat, (K1 : Int) = (K : Int) + n := ⟨((K : Int) + n).toNat, by omega⟩
  have key := cmp_sc N (D * 2 ^ (f + 1)) n K (by omega)
  rw [show ((K : Int) + n).toNat = K1 by omega] at key
  have hb := (ld_bd hN hD K1 (by omega)).2
  have hle : D * 2 ^ ((K1 : Int) + ld N D + 1).toNat ≤ D * 2 ^ (f + 1) * 2 ^ K := by
    rw [Nat.mul_assoc, ← Nat.pow_add]
    exact Nat.mul_le_mul_left _ (Nat.pow_le_pow_right (by decide) (by omega))
  have := key.2 (Nat.lt_of_lt_of_le hb hle)
  rw [Nat.mul_right_comm] at this
  exact this
theorem nrQ_ge {N D : Nat} (hN : N ≠ 0) (hD : D ≠ 0) {n : Int} {f : Nat} (h : ld N D + n = f) : 2 ^ f ≤ nrQ N D n := by
  unfold nrQ
  have hpos : 0 < D * 2 ^ (-n).toNat := Nat.mul_pos (by omega) (Nat.two_pow_pos _)
  rw [Nat.le_div_iff_mul_le hpos]
  apply Nat.le_of_not_lt
  intro hlt
  obtain ⟨K, hK⟩ : ∃ K : Nat, K = bl D + 1 + n.natAbs := ⟨_, rfl⟩
  obtain ⟨K1, hK1⟩ : ∃ K1 : Nat, (K1 : Int) = (K : Int) + n := ⟨((K : Int) + n).toNat, by omega⟩
  have key := cmp_sc N (D * 2 ^ f) n K (by omega)
  rw [show ((K : Int) + n).toNat = K1 by omega] at key
  have hb := (ld_bd hN hD K1 (by omega)).1
  rw [show 2 ^ f * (D * 2 ^ (-n).toNat) = D * 2 ^ f * 2 ^ (-n).toNat by rw [← Nat.mul_assoc, Nat.mul_comm (2 ^ f) D]] at hlt
  have h2 := key.1 hlt
  rw [Nat.mul_assoc, ← Nat.pow_add, show f + K = ((K1 : Int) + ld N D).toNat by omega] at h2
  omega
end Go.Proofs.YtplocajjfoiklaaGreatDoor

namespace Go.Proofs.YtplocajjfoiklaaGreatDoor
open Go.RowKit

theorem finite_v (n : Int) (nm : ByteArray) (wd : Int) (f e : Nat) (l m : Int) (s : Bool) (x fl : Int) {K C : Nat} {v : Value} {w : World} (hT : Tab w) (h : Nz K C v w) (hC : C < 2 ^ 256) :
    Calls Tryz.prog 78 #[DI n nm wd f e l m, .bool s, v, .int .i64 x, .int .i64 fl] w fun r w' => r = .returned (.tuple #[A4 (pkV n ⟨1, s, false, x, C⟩), .int .i64 fl, .int .i64 (pkE n ⟨1, s, false, x, C⟩)]) ∧ Below w.heap.size w w' := by
  obtain ⟨a, k, cap, z, rfl, hk, hN, hv, hs⟩ := h
  have hk4 : k ≤ 4 := by
    have := (size_bl (m := 4) hN.2.2.1 hv).2 (bl_le.2 hC)
    omega
  have hv4 : val z 4 = (C : Int) := by rw [val_more hN.2.2.2.1 4 hk4, hv]
  have hz : ∀ i, i < 4 → z i = W4 C i := val_inj hN.2.2.1 (W4_words C) 4 (by rw [hv4, W4_val4 hC])
  have c56 := fun W hT => pack_any n ⟨1, s, false, x, C⟩ W hT hC
  have ed : (Dat.mk 1 s false x C).v = .agg #[.int .i64 1, .bool s, .bool false, .int .i64 x, .int .u64 (z 0), .int .u64 (z 1), .int .u64 (z 2), .int .u64 (z 3)] := by
    unfold Dat.v DV
    rw [hz 0 (by decide), hz 1 (by decide), hz 2 (by decide), hz 3 (by decide)]
  rw [ed] at c56
  have z0 := hN.2.2.2.1
  generalize pkV n ⟨1, s, false, x, C⟩ = R at *
  generalize pkE n ⟨1, s, false, x, C⟩ = E at *
  obtain ⟨n1, n2, n3, n4, n5⟩ := hN
  rcases n5 with ⟨rfl, rfl⟩ | ⟨b, off, rfl, hb, hc⟩
  · obtain rfl : k = 0 := by omega
    rw [z0 0 (by omega), z0 1 (by omega), z0 2 (by omega), z0 3 (by omega)] at c56
    exact fin_n n nm wd f e l m s x fl E R w hT c56
  · have : k = 0 ∨ k = 1 ∨ k = 2 ∨ k = 3 ∨ k = 4 := by omega
    rcases this with rfl | rfl | rfl | rfl | rfl
    · rw [z0 0 (by omega), z0 1 (by omega), z0 2 (by omega), z0 3 (by omega)] at c56
      exact fin_0 n nm wd f e l m s x fl E R w hT b off cap hb c56
    · rw [z0 1 (by omega), z0 2 (by omega), z0 3 (by omega)] at c56
      exact fin_1 n nm wd f e l m s x fl E R z w hT b off cap hb (hc 0 (by decide)) c56
    · rw [z0 2 (by omega), z0 3 (by omega)] at c56
      exact fin_2 n nm wd f e l m s x fl E R z w hT b off cap hb (hc 0 (by decide)) (hc 1 (by decide)) c56
    · rw [z0 3 (by omega)] at c56
      exact fin_3 n nm wd f e l m s x fl E R z w hT b off cap hb (hc 0 (by decide)) (hc 1 (by decide)) (hc 2 (by decide)) c56
    · exact fin_4 n nm wd f e l m s x fl E R z w hT b off cap hb (hc 0 (by decide)) (hc 1 (by decide)) (hc 2 (by decide)) (hc 3 (by decide)) c56
end Go.Proofs.YtplocajjfoiklaaGreatDoor

namespace Go.Proofs.YtplocajjfoiklaaGreatDoor
open Go.RowKit

/-- the exponent within reach, the unit's exponent, the coefficient, and both behind the carry -/
def rX (n : Int) (N D : Nat) (x : Int) : Int := wiZ (fN n) (leastN n) (mostN n) (ld N D) x
def rQ (n : Int) (N D : Nat) (x : Int) : Int := max (leastN n) (ld N D + rX n N D x - ((fN n : Int) + 1) + 1)
def rC (n d : Int) (s : Bool) (N D : Nat) (x : Int) : Nat := nrC d s N D (rX n N D x - rQ n N D x)
def rC' (n d : Int) (s : Bool) (N D : Nat) (x : Int) : Nat := if (fN n : Int) + 1 < (bl (rC n d s N D x) : Int) then rC n d s N D x / 2 else rC n d s N D x
def rQ' (n d : Int) (s : Bool) (N D : Nat) (x : Int) : Int := if (fN n : Int) + 1 < (bl (rC n d s N D x) : Int) then rQ n N D x + 1 else rQ n N D x
/-- the pattern and the flags -/
def rdV (n d : Int) (s : Bool) (N D : Nat) (x : Int) : Nat := if N = 0 then pkV n ⟨1, s, false, leastN n, 0⟩ else if mostN n < rQ' n d s N D x then (if inB d s then pkV n ⟨2, s, false, 0, 0⟩ else lgV n s) else pkV n ⟨1, s, false, rQ' n d s N D x, rC' n d s N D x⟩
def rdF (n d : Int) (s : Bool) (N D : Nat) (x : Int) : Int := if N = 0 then 0 else if mostN n < rQ' n d s N D x then 10 else if decide (nrR N D (rX n N D x - rQ n N D x) = 0) then 0 else if decide (ld N D + rX n N D x < (fN n : Int) + leastN n) then 12 else 8
theorem bin_more' {n : Int} (h : binN n) : numN n = n ∧ denseN n = false := by
  rcases bin_cases h with rfl | rfl | rfl | rfl | rfl | rfl <;> exact ⟨by decide, by decide⟩
theorem dof_bin {n : Int} (hb : binN n) (w : World) (hT : Tab w) : Calls Tryz.prog 32 #[.int .i64 n] w fun x w' => x = .returned (.tuple #[DI n (nameN n) (widthN n) (fN n) (eN n) (leastN n) (mostN n), .int .i64 0]) ∧ Below w.heap.size w w' := by
  obtain ⟨hok, hb2, hpr, hex, hwd, hpy⟩ := bin_fields hb
  obtain ⟨hnum, hden⟩ := bin_more' hb
  have c := ofv_any n w hT
  rw [show infoE n = 0 from if_pos hok, hnum, hb2, hpr, hex, hden, hpy] at c
  exact c
theorem nz_nil (w : World) : Nz 0 0 (.slice none 0 0) w :=
  ⟨none, 0, 0, fun _ => 0, rfl, Nat.le_refl _, ⟨Nat.le_refl _, by unfold maxLen; omega, fun i => ⟨Int.le_refl _, (by decide : (0 : Int) ≤ 18446744073709551615)⟩, fun _ _ => rfl, Or.inl ⟨rfl, rfl⟩⟩, rfl, rfl⟩
/-- the datum that comes out is the format's -/
theorem r_isD {n d : Int} {s : Bool} {N D : Nat} {x : Int} (hb : binN n) (hN : N ≠ 0) (hD : D ≠ 0) (ho : ¬ mostN n < rQ' n d s N D x) : isD (fN n) (leastN n) (mostN n) ⟨1, s, false, rQ' n d s N D x, rC' n d s N D x⟩ := by
  have hq : leastN n ≤ rQ n N D x := Int.le_max_left _ _
  have hq2 : ld N D + (rX n N D x - rQ n N D x) ≤ (fN n : Int) := by unfold rQ; omega
  have hlt := nrQ_lt hN hD hq2
  have hge : rQ n N D x ≠ leastN n → 2 ^ fN n ≤ nrQ N D (rX n N D x - rQ n N D x) := fun h => nrQ_ge hN hD (by unfold rQ at h ⊢; omega)
  have hC : rC n d s N D x = nrQ N D (rX n N D x - rQ n N D x) ∨ rC n d s N D x = nrQ N D (rX n N D x - rQ n N D x) + 1 := by
    unfold rC nrC
    cases nrF d s N D (rX n N D x - rQ n N D x)
    · exact Or.inl rfl
    · exact Or.inr rfl
  have hs : 2 ^ (fN n + 1) = 2 ^ fN n + 2 ^ fN n := by rw [Nat.pow_succ]; omega
  have hu : (fN n : Int) + 1 < (bl (rC n d s N D x) : Int) ↔ 2 ^ (fN n + 1) ≤ rC n d s N D x := by
    rw [← bl_ge]; omega
  unfold rQ' rC' at *
  by_cases h : (fN n : Int) + 1 < (bl (rC n d s N D x) : Int)
  · rw [if_pos h] at ho
    have h2 := hu.1 h
    have e : rC n d s N D x = 2 ^ (fN n + 1) := by omega
    rw [if_pos h, if_pos h]
    exact Or.inl ⟨rfl, rfl, by show rC n d s N D x / 2 < _; omega, by show leastN n ≤ rQ n N D x + 1; omega, by show rQ n N D x + 1 ≤ _; omega, Or.inl (by show 2 ^ fN n ≤ rC n d s N D x / 2; omega)⟩
  · rw [if_neg h] at ho
    have h2 := mt hu.2 h
    rw [if_neg h, if_neg h]
    refine Or.inl ⟨rfl, rfl, by show rC n d s N D x < _; omega, hq, by show rQ n N D x ≤ _; omega, ?_⟩
    by_cases h3 : rQ n N D x = leastN n
    · exact Or.inr h3
    · have := hge h3
      exact Or.inl (by show 2 ^ fN n ≤ rC n d s N D x; omega)
theorem wi_bd {n : Int} {L x : Int} (hb : binN n) (hL : -60000 ≤ L ∧ L ≤ 60000) : -300000 ≤ wiZ (fN n) (leastN n) (mostN n) L x ∧ wiZ (fN n) (leastN n) (mostN n) L x ≤ 300000 ∧ -100000 ≤ leastN n ∧ leastN n ≤ 100000 ∧ -100000 ≤ mostN n ∧ mostN n ≤ 100000 ∧ L + wiZ (fN n) (leastN n) (mostN n) L x ≤ 100000 ∧ -100000 ≤ L + wiZ (fN n) (leastN n) (mostN n) L x := by
  unfold wiZ
  rcases bin_cases hb with rfl | rfl | rfl | rfl | rfl | rfl
  all_goals
    simp [leastN, mostN, fN, precN]
    omega
theorem ld_ab {N D : Nat} (h1 : bl N ≤ 51200) (h2 : bl D ≤ 51200) : -60000 ≤ ld N D ∧ ld N D ≤ 60000 := by
  unfold ld
  dsimp only
  split <;> omega
theorem rnd_good (n d x : Int) (s : Bool) {N D : Nat} {vn vd : Value} {w : World} (hT : Tab w) (hn : Nt 2001 N vn w) (hd : Nt 2001 D vd w) (hb : binN n) (hk : knB d) (hD : D ≠ 0) (h1 : bl N ≤ 51200) (h2 : bl D ≤ 51200) :
    Calls Tryz.prog 35 #[.int .i64 n, .int .i64 d, .bool s, vn, vd, .int .i64 x] w fun r w' => r = .returned (.tuple #[A4 (rdV n d s N D x), .int .i64 (rdF n d s N D x), .int .i64 0]) ∧ Below w.heap.size w w' := by
  have hF := bin_fm hb
  have hf240 := hF.f240
  have c26 := fun W (hb' : Below w.heap.size w W) => nlen_v (by decide) (hn.next hb')
  have c26d := fun W (hb' : Below w.heap.size w W) => nlen_v (by decide) (hd.next hb')
  have hDb : (((bl D : Nat) : Int) == 0) = false := by
    have : bl D ≠ 0 := fun e => hD (bl_zero.1 e)
    rw [beq_eq_false_iff_ne]; omega
  have c25 : ∀ W, Below w.heap.size w W → Calls Tryz.prog 76 #[.int .i64 n, .int .i64 d, vn, vd] W fun r w' => r = .returned (.tuple #[DI n (nameN n) (widthN n) (fN n) (eN n) (leastN n) (mostN n), .int .i64 0]) ∧ Below W.heap.size W w' := fun W hW =>
    check_k n d _ _ _ _ _ _ N D vn vd W (hT.go hW) (fun W' h' => c26 W' (bnx hW h')) (fun W' h' => c26d W' (bnx hW h')) (decide_eq_true hk) hDb (by omega) (by omega) (fun W' hT' => dof_bin hb W' hT')
  unfold rdV rdF
  by_cases hz : N = 0
  · rw [if_pos hz, if_pos hz]
    have hp := pow_e hF.e2 hF.e15
    have hm := hF.m
    have hi : isD (fN n) (leastN n) (mostN n) ⟨1, s, false, leastN n, 0⟩ := Or.inl ⟨rfl, rfl, Nat.two_pow_pos _, Int.le_refl _, by show leastN n ≤ mostN n; omega, Or.inr rfl⟩
    have e : pkE n ⟨1, s, false, leastN n, 0⟩ = 0 := by unfold pkE; rw [if_pos hb, if_pos hi]
    refine binary_z n d x s vn vd w hT _ _ _ _ _ _ N _ _ c25 c26 (by rw [hz]; decide) fun W hT' => ?_
    have := finite_v n (nameN n) (widthN n) (fN n) (eN n) (leastN n) (mostN n) s (leastN n) 0 hT' (nz_nil W) (by decide)
    rw [e] at this
    exact this
  · rw [if_neg hz, if_neg hz]
    have hN0 : (((bl N : Nat) : Int) == 0) = false := by
      have : bl N ≠ 0 := fun e => hz (bl_zero.1 e)
      rw [beq_eq_false_iff_ne]; omega
    have hL := ld_ab h1 h2
    obtain ⟨w1, w2, w3, w4, w5, w6, w7, w8⟩ := wi_bd (x := x) hb hL
    have hq0 : rQ n N D x = max (leastN n) (ld N D + rX n N D x - ((fN n : Int) + 1) + 1) := rfl
    have c28 := fun W (hb' : Below w.heap.size w W) => leading_v (hn.next hb') (hd.next hb') h1 h2
    have c29 := fun W => within_any n (nameN n) (widthN n) (fN n) (eN n) (leastN n) (mostN n) (ld N D) x W (by omega) ⟨w3, w4⟩ ⟨w5, w6⟩ (by omega)
    have hX : rX n N D x = wiZ (fN n) (leastN n) (mostN n) (ld N D) x := rfl
    rw [← hX] at w1 w2 w7 w8
    have hbn : (bl N : Int) + (rX n N D x - rQ n N D x) ≤ 127000 ∧ (bl D : Int) - (rX n N D x - rQ n N D x) ≤ 127000 := by
      have hl2 : (bl N : Int) - bl D - 1 ≤ ld N D ∧ ld N D ≤ (bl N : Int) - bl D := by
        unfold ld; dsimp only; split <;> omega
      have hp := pow_e hF.e2 hF.e15
      have hm := hF.m
      have hr : leastN n - 2 - ld N D ≤ rX n N D x := by rw [hX]; unfold wiZ; omega
      rw [hq0]; omega
    have c30 : ∀ W k, k = rX n N D x - rQ n N D x → Below w.heap.size w W → Calls Tryz.prog 81 #[.int .i64 d, .bool s, vn, vd, .int .i64 k] W fun r w' => ∃ v, r = .returned (.tuple #[v, .bool (decide (nrR N D (rX n N D x - rQ n N D x) = 0))]) ∧ Nz 2003 (rC n d s N D x) v w' ∧ Below W.heap.size W w' := fun W k hk' hb' => by
      subst hk'
      exact nearby_v d _ s (hn.next hb') (hd.next hb') hD hbn.1 hbn.2 (by omega) (by omega)
    have hup : (fN n : Int) + 1 < (bl (rC n d s N D x) : Int) → rC' n d s N D x = rC n d s N D x / 2 ∧ rQ' n d s N D x = rQ n N D x + 1 := fun h => ⟨if_pos h, if_pos h⟩
    have hno : ¬ (fN n : Int) + 1 < (bl (rC n d s N D x) : Int) → rC' n d s N D x = rC n d s N D x ∧ rQ' n d s N D x = rQ n N D x := fun h => ⟨if_neg h, if_neg h⟩
    have c26c := fun W v (h : Nz 2003 (rC n d s N D x) v W) => nlen_v (by decide) h.nt
    have c31 := fun W v (h : Nz 2003 (rC n d s N D x) v W) => nshr_v (by decide) h.nt
    by_cases ho : mostN n < rQ' n d s N D x
    · rw [if_pos ho, if_pos ho]
      refine binary_o n d x s vn vd w hT _ _ _ _ _ _ N (rC n d s N D x) _ _ _ (ld N D) (rX n N D x) (rQ n N D x) _ c25 c26 (by omega) ⟨w3, w4⟩ ⟨w5, w6⟩ (by omega) ⟨w1, w2⟩ hq0 hN0 c28 c29 c30 c26c c31 _ _ hup hno ho ?_
      intro W hT'
      by_cases hi : inB d s = true
      · rw [if_pos hi]
        have hd2 : isD (fN n) (leastN n) (mostN n) ⟨2, s, false, 0, 0⟩ := Or.inr (Or.inl ⟨rfl, rfl, rfl, rfl⟩)
        have e : pkE n ⟨2, s, false, 0, 0⟩ = 0 := by unfold pkE; rw [if_pos hb, if_pos hd2]
        refine overflow_i n _ _ _ _ _ _ d s _ _ W hT' hi fun W' hT2 => ?_
        have := pack_any n ⟨2, s, false, 0, 0⟩ W' hT2 (by show 0 < 2 ^ 256; decide)
        rw [e] at this
        unfold Dat.v DV at this
        simp only [W4_zero] at this
        exact this
      · rw [if_neg hi]
        refine overflow_l n _ _ _ _ _ _ d s _ _ W hT' (by simpa using hi) fun W' hT2 => ?_
        have := largest_any n s W' hT2
        rw [show lgE n = 0 from if_pos hb] at this
        exact this
    · rw [if_neg ho, if_neg ho]
      have hi := r_isD (s := s) hb hz hD ho
      have e : pkE n ⟨1, s, false, rQ' n d s N D x, rC' n d s N D x⟩ = 0 := by unfold pkE; rw [if_pos hb, if_pos hi]
      have hC : rC' n d s N D x < 2 ^ 256 := by
        rcases hi with ⟨_, _, hk1, _⟩ | ⟨hc, _⟩ | ⟨hc, _⟩
        · exact Nat.lt_of_lt_of_le hk1 (Nat.pow_le_pow_right (by decide) (by omega))
        · exact absurd (show (1 : Int) = 2 from hc) (by decide)
        · exact absurd (show (1 : Int) = 3 from hc) (by decide)
      refine binary_f n d x s vn vd w hT _ _ _ _ _ _ N (rC n d s N D x) _ _ _ (ld N D) (rX n N D x) (rQ n N D x) _ c25 c26 (by omega) ⟨w3, w4⟩ ⟨w5, w6⟩ (by omega) ⟨w1, w2⟩ hq0 hN0 c28 c29 c30 c26c c31 _ _ hup hno ho 0 rfl ?_
      intro W v hT' hv
      have := finite_v n (nameN n) (widthN n) (fN n) (eN n) (leastN n) (mostN n) s (rQ' n d s N D x) (if decide (nrR N D (rX n N D x - rQ n N D x) = 0) then 0 else if decide (ld N D + rX n N D x < (fN n : Int) + leastN n) then 12 else 8) hT' hv hC
      rw [e] at this
      exact this
end Go.Proofs.YtplocajjfoiklaaGreatDoor

namespace Go.Proofs.YtplocajjfoiklaaGreatDoor
open Go.RowKit
/-- a natural number, of at most K words -/
def NV (K V : Nat) (v : Value) (w : World) : Prop := ∃ g k cap z, v = .slice (some ⟨g, 0, none⟩) k cap ∧ k ≤ K ∧ Num w (some ⟨g, 0, none⟩) k cap z ∧ val z k = (V : Int)
theorem NV.next {K V : Nat} {v : Value} {w w' : World} (h : NV K V v w) (hb : Below w.heap.size w w') : NV K V v w' := by
  obtain ⟨g, k, cap, z, h1, h2, h3, h4⟩ := h
  exact ⟨g, k, cap, z, h1, h2, h3.next hb, h4⟩
theorem NV.more {K K' V : Nat} {v : Value} {w : World} (h : NV K V v w) (hk : K ≤ K') : NV K' V v w := by
  obtain ⟨g, k, cap, z, h1, h2, h3, h4⟩ := h
  exact ⟨g, k, cap, z, h1, by omega, h3, h4⟩
/-- a natural number without noughts at its end -/
def NT (K V : Nat) (v : Value) (w : World) : Prop := ∃ g k cap z, v = .slice (some ⟨g, 0, none⟩) k cap ∧ k ≤ K ∧ Num w (some ⟨g, 0, none⟩) k cap z ∧ val z k = (V : Int) ∧ sizeL z k = k
theorem NT.next {K V : Nat} {v : Value} {w w' : World} (h : NT K V v w) (hb : Below w.heap.size w w') : NT K V v w' := by
  obtain ⟨g, k, cap, z, h1, h2, h3, h4, h5⟩ := h
  exact ⟨g, k, cap, z, h1, h2, h3.next hb, h4, h5⟩
theorem NT.zero {K V : Nat} {v : Value} {w : World} (h : NT K V v w) : ∃ g k cap, v = .slice (some ⟨g, 0, none⟩) k cap ∧ k ≤ K ∧ (k = 0 ↔ V = 0) := by
  obtain ⟨g, k, cap, z, h1, h2, h3, h4, h5⟩ := h
  refine ⟨g, k, cap, h1, h2, ?_⟩
  constructor
  · intro hk; subst hk
    have : val z 0 = 0 := rfl
    omega
  · intro hV
    rcases Nat.eq_zero_or_pos k with hk | hk
    · exact hk
    · exfalso
      have ht := sizeL_top (x := z) k (by omega)
      rw [h5] at ht
      obtain ⟨j, rfl⟩ : ∃ j, k = j + 1 := ⟨k - 1, by omega⟩
      have hs : val z (j + 1) = val z j + z j * 18446744073709551616 ^ j := rfl
      have hb := val_bd h3.2.2.1 j
      have hp := pw_pos j
      have hj := h3.2.2.1 j
      have hz : z j ≠ 0 := ht
      have : 1 * 18446744073709551616 ^ j ≤ z j * 18446744073709551616 ^ j := Int.mul_le_mul_of_nonneg_right (by omega) (Int.le_of_lt hp)
      omega
end Go.Proofs.YtplocajjfoiklaaGreatDoor

namespace Go.Proofs.YtplocajjfoiklaaGreatDoor
open Go.RowKit


theorem NT.more {K K' V : Nat} {v : Value} {w : World} (h : NT K V v w) (hk : K ≤ K') : NT K' V v w := by
  obtain ⟨g, k, cap, z, h1, h2, h3, h4, h5⟩ := h
  exact ⟨g, k, cap, z, h1, by omega, h3, h4, h5⟩
end Go.Proofs.YtplocajjfoiklaaGreatDoor

namespace Go.Proofs.YtplocajjfoiklaaGreatDoor
open Go.RowKit

def whC (d : Int) (s : Bool) (A B : Nat) : Nat := if faB d s (decide (A / B % 2 = 1)) (A % B) B then A / B + 1 else A / B
theorem sc_frac (N D a b : Nat) {n : Int} (h : (a : Int) - b = n) : ∃ κ, N * 2 ^ a = N * 2 ^ n.toNat * 2 ^ κ ∧ D * 2 ^ b = D * 2 ^ (-n).toNat * 2 ^ κ := by
  refine ⟨a - n.toNat, ?_, ?_⟩
  · rw [Nat.mul_assoc, ← Nat.pow_add]; congr 2; omega
  · rw [Nat.mul_assoc, ← Nat.pow_add]; congr 2; omega
theorem fa_sc (d : Int) (s o : Bool) (R D k : Nat) (hk : 0 < k) : faB d s o (R * k) (D * k) = faB d s o R D := by
  have e1 : R * k = 0 ↔ R = 0 := by rw [Nat.mul_eq_zero]; omega
  have e2 : D * k < R * k + R * k ↔ D < R + R := by rw [← Nat.add_mul]; exact Nat.mul_lt_mul_right hk
  have e3 : R * k + R * k = D * k ↔ R + R = D := by rw [← Nat.add_mul]; exact Nat.mul_right_cancel_iff hk
  have e4 : D * k ≤ R * k + R * k ↔ D ≤ R + R := by rw [← Nat.add_mul]; exact Nat.mul_le_mul_right_iff hk
  unfold faB
  simp only [e1, e2, e3, e4]
theorem wh_sc (d : Int) (s : Bool) (N D a b : Nat) {n : Int} (h : (a : Int) - b = n) : whC d s (N * 2 ^ a) (D * 2 ^ b) = nrC d s N D n ∧ (N * 2 ^ a % (D * 2 ^ b) = 0 ↔ nrR N D n = 0) := by
  obtain ⟨κ, e1, e2⟩ := sc_frac N D a b h
  have hk := Nat.two_pow_pos κ
  rw [e1, e2]
  unfold whC nrC nrF nrQ nrR
  rw [Nat.mul_div_mul_right _ _ hk, Nat.mul_mod_mul_right, fa_sc d s _ _ _ _ hk]
  refine ⟨rfl, ?_⟩
  rw [Nat.mul_eq_zero]; omega
theorem bl_shift {V : Nat} (h : V ≠ 0) (a : Nat) : bl (V * 2 ^ a) = bl V + a := by
  obtain ⟨h1, h2, h3⟩ := bl_bd h
  refine bl_eq ?_ ?_
  · rw [show bl V + a - 1 = (bl V - 1) + a by omega, Nat.pow_add]
    exact Nat.mul_le_mul_right _ h1
  · rw [Nat.pow_add]
    exact Nat.mul_lt_mul_of_pos_right h2 (Nat.two_pow_pos _)
theorem ld_shift {N D : Nat} (hN : N ≠ 0) (hD : D ≠ 0) (a b : Nat) : ld (N * 2 ^ a) (D * 2 ^ b) = ld N D + ((a : Int) - b) := by
  unfold ld
  dsimp only
  rw [bl_shift hN, bl_shift hD]
  obtain ⟨p, hp⟩ : ∃ p : Int, (bl N : Int) - bl D = p := ⟨_, rfl⟩
  obtain ⟨p', hp'⟩ : ∃ p' : Int, ((bl N + a : Nat) : Int) - ((bl D + b : Nat) : Int) = p' := ⟨_, rfl⟩
  rw [hp, hp']
  have hpp : p' = p + ((a : Int) - b) := by omega
  obtain ⟨κ, e1, e2⟩ := sc_frac N D (a + (-p').toNat) (b + p'.toNat) (n := -p) (by omega)
  rw [Nat.pow_add, ← Nat.mul_assoc] at e1 e2
  rw [Int.neg_neg] at e2
  rw [e1, e2]
  have hk := Nat.two_pow_pos κ
  by_cases h : N * 2 ^ (-p).toNat < D * 2 ^ p.toNat
  · rw [if_pos h, if_pos (Nat.mul_lt_mul_of_pos_right h hk)]; omega
  · rw [if_neg h, if_neg (fun hh => h (Nat.lt_of_mul_lt_mul_right hh))]; omega
theorem fld_bd {n : Int} (hb : binN n) : -17000 ≤ leastN n ∧ leastN n ≤ mostN n ∧ mostN n ≤ 17000 ∧ fN n ≤ 240 ∧ 1 ≤ fN n := by
  rcases bin_cases hb with rfl | rfl | rfl | rfl | rfl | rfl <;> simp [leastN, mostN, fN, precN]
end Go.Proofs.YtplocajjfoiklaaGreatDoor

namespace Go.Proofs.YtplocajjfoiklaaGreatDoor
open Go.RowKit

theorem rdir_any (d : Int) (w : World) : Calls Tryz.prog 15 #[.int .i64 d] w fun e w' => e = .returned (.bool (decide (knB d))) ∧ w = w' := by
  by_cases h0 : 0 ≤ d
  · by_cases h4 : d ≤ 4
    · have e : decide (knB d) = true := by unfold knB; simp [h0, h4]
      rw [e]
      go_enter Tryz.func15, Tryz.ntmps15
      go_wp2
      go_ret
      exact ⟨by simp [h0, h4], rfl⟩
    · have e : decide (knB d) = false := by unfold knB; simp [h0, h4]
      rw [e]
      go_enter Tryz.func15, Tryz.ntmps15
      go_wp2
      go_ret
      exact ⟨by simp [h0, h4], rfl⟩
  · have e : decide (knB d) = false := by unfold knB; simp [h0]
    rw [e]
    go_enter Tryz.func15, Tryz.ntmps15
    go_wp2
    go_ret
    exact ⟨by simp [h0], rfl⟩
section
variable (x : Int) (vn vd : Value) (A B KK : Nat) (w : World)
end
section
variable (vn vd : Value) (LN LD s : Int) (w : World) (hLN : 0 ≤ LN ∧ LN ≤ 2000000) (hLD : 0 ≤ LD ∧ LD ≤ 2000000)
  (c70 : Calls Tryz.prog 26 #[vn] w fun e w' => e = .returned (.int .i64 LN) ∧ w = w')
  (c70d : Calls Tryz.prog 26 #[vd] w fun e w' => e = .returned (.int .i64 LD) ∧ w = w')
  (c67 : ∀ n : Int, n = -(LN - LD) → Calls Tryz.prog 99 #[vn, vd, .int .u64 2, .int .i64 n] w fun e w' => ∃ va vb, e = .returned (.tuple #[va, vb]) ∧ (Calls Tryz.prog 154 #[va, vb] w' fun e w'' => e = .returned (.int .i64 s) ∧ w' = w'') ∧ Below w.heap.size w w')
include hLN hLD c70 c70d c67
end
end Go.Proofs.YtplocajjfoiklaaGreatDoor

namespace Go.Proofs.YtplocajjfoiklaaGreatDoor
open Go.RowKit
theorem p10_posN (n : Nat) : (0 : Int) < 10 ^ n := Int.pow_pos (by decide)

theorem val_ones : ∀ t, val (fun _ => 18446744073709551615) t = 18446744073709551616 ^ t - 1
  | 0 => by simp [val]
  | t + 1 => by
    show val (fun _ => 18446744073709551615) t + 18446744073709551615 * 18446744073709551616 ^ t = 18446744073709551616 ^ (t + 1) - 1
    rw [val_ones t, Int.pow_succ]; omega
/-- a trimmed number below B^t has t words at most -/
theorem size_bound {z : Nat → Int} (hz : Words z) {k t : Nat} (hs : sizeL z k = k) (hv : val z k < 18446744073709551616 ^ t) : k ≤ t := by
  rcases Nat.lt_or_ge t k with h | h
  · have := val_longer (x := fun _ => 18446744073709551615) (fun _ => (by decide : (0 : Int) ≤ 18446744073709551615 ∧ (18446744073709551615 : Int) ≤ 18446744073709551615)) hz h hs
    rw [val_ones] at this; omega
  · exact h
theorem p19 : ∀ t : Nat, (10 : Int) ^ (19 * t) ≤ 18446744073709551616 ^ t
  | 0 => by simp
  | t + 1 => by
    have ih := p19 t
    have e : (10 : Int) ^ (19 * (t + 1)) = 10 ^ (19 * t) * 10000000000000000000 := by rw [Nat.mul_add, Int.pow_add]; rfl
    rw [e, Int.pow_succ]
    have h0 := pw_pos t
    have h1 := p10_posN (19 * t)
    generalize (18446744073709551616 : Int) ^ t = A at *
    generalize (10 : Int) ^ (19 * t) = B at *
    omega
theorem pow_le10 {b : Int} (hb : 0 ≤ b) (hb2 : b ≤ 10) : ∀ e : Nat, 0 ≤ b ^ e ∧ b ^ e ≤ 10 ^ e
  | 0 => by simp
  | e + 1 => by
    have ih := pow_le10 hb hb2 e
    rw [Int.pow_succ, Int.pow_succ]
    exact ⟨Int.mul_nonneg ih.1 hb, Int.mul_le_mul ih.2 hb2 hb (Int.le_of_lt (p10_posN e))⟩
theorem pow_small {b : Int} (hb : 0 ≤ b) (hb2 : b ≤ 10) {e : Nat} (he : e ≤ 12000) : b ^ e < 18446744073709551616 ^ 632 := by
  have h1 := (pow_le10 hb hb2 e).2
  have h2 := p19 632
  have h3 : (10 : Int) ^ e < 10 ^ (19 * 632) := by
    obtain ⟨k, hk⟩ : ∃ k, 19 * 632 = e + 1 + k := ⟨19 * 632 - (e + 1), by omega⟩
    rw [hk, Int.pow_add, Int.pow_succ]
    have := p10_posN e
    have h4 := p10_posN k
    have h5 : (10 : Int) ^ e * 10 * 1 ≤ 10 ^ e * 10 * 10 ^ k := Int.mul_le_mul_of_nonneg_left (by omega) (by omega)
    omega
  exact Int.lt_of_lt_of_le (Int.lt_of_le_of_lt h1 h3) h2

set_option maxHeartbeats 2000000 in
theorem npow_any (b : Int) (n : Nat) (w : World) (hb : b = 5 ∨ b = 10) (hn : n ≤ 12000) :
    Calls Tryz.prog 147 #[.int .i64 b, .int .i64 n] w fun e w' => ∃ g k cap z, e = .returned (.tuple #[.slice (some ⟨g, 0, none⟩) k cap, .int .i64 0]) ∧ k ≤ 2001 ∧ Num w' (some ⟨g, 0, none⟩) k cap z ∧ val z k = b ^ n ∧ sizeL z k = k ∧ Below w.heap.size w w' := by
  have hb0 : 0 ≤ b ∧ b ≤ 10 := by omega
  have hbc : b = 5 ∨ b = 10 := hb
  have hb2 : (b == 2) = false := by simp; omega
  have hN1 := num_one w 1 (by decide)
  have hBB := below1 w (.cells #[.int .u64 1] 22)
  have hn' : (n : Int) ≤ 12000 := by omega
  have hlen := Tryz.bits_Len n (w.alloc (.cells #[.int .u64 1] 22)) (by omega) (by omega)
  rw [Int.toNat_natCast] at hlen
  obtain ⟨L, hL⟩ : ∃ L, Lib.bitLen n = L := ⟨_, rfl⟩
  have hL64 : L ≤ 64 := by rw [← hL]; exact bitLen64 n
  have HLn : Hid (n / 2 ^ L = 0) := by
    show _ = _
    by_cases h0 : n = 0
    · subst h0; simp
    · have := bitLen_spec n (by omega) (by omega)
      rw [hL] at this
      exact Nat.div_eq_of_lt this.2.2.2
  rw [hL] at hlen
  clear hL
  have HS1 : Hid (sizeL (oneW 1) 1 = 1) := by show _ = _; simp [sizeL, oneW]
  have hne : (b != 2) = true := by simp; omega
  have hpick : (b != 5) = true ∧ (b != 10) = false ∨ (b != 5) = false := by rcases hb with rfl | rfl <;> decide
  have hps : ∀ e, e ≤ 12000 → b ^ e < 18446744073709551616 ^ 632 := fun e he => pow_small hb0.1 hb0.2 he
  have HPS : Hid (∀ e, e ≤ 12000 → b ^ e < 18446744073709551616 ^ 632) := hps
  clear hps hb
  rcases hpick with ⟨h5, h10⟩ | h5
  all_goals
    go_enter Tryz.func147, Tryz.ntmps147
    go_wp2_with (go_at_call 192; refine hlen.mono ?_; rintro e w' ⟨rfl, rfl⟩)
    generalize w.alloc (.cells #[.int .u64 1] 22) = wA at *
    go_loopw [6, 7, 40, 51] (fun pv iv u40 u51 wr => ∃ (k kk g p : Nat) (z : Nat → Int), k ≤ L ∧ iv = .int .i64 ((k : Int) - 1) ∧ pv = .slice (some ⟨g, 0, none⟩) kk p ∧ kk ≤ 632 ∧ Num wr (some ⟨g, 0, none⟩) kk p z ∧ sizeL z kk = kk ∧ Hid (val z kk = b ^ (n / 2 ^ k)) ∧ Below w.heap.size w wr) (fun _ iv _ _ _ => (intOf iv + 1).toNat)
    case atStart => exact ⟨L, 1, w.heap.size, 1, oneW 1, Nat.le_refl _, by go_num, rfl, by omega, hN1, HS1.out, by show _ = _; rw [val_one1, HLn.out, Int.pow_zero], hBB⟩
    case round =>
      clear hN1 hBB hlen
      obtain ⟨k, kk, g, p, z, hk, rfl, rfl, hkk, hN, hs, hv, hB⟩ := hrel
      by_cases h0 : k = 0
      · subst h0
        have HV : Hid (val z kk = b ^ n) := by show _ = _; have := hv.out; simpa using this
        have HN : Hid (Num wr (some ⟨g, 0, none⟩) kk p z) := hN
        have HS : Hid (sizeL z kk = kk) := hs
        clear hN hv hs
        go_wp2
        go_ret2
        exact ⟨g, kk, p, z, rfl, by omega, HN.out, HV.out, HS.out, hB⟩
      · obtain ⟨j, rfl⟩ : ∃ j, k = j + 1 := ⟨k - 1, by omega⟩
        have ej : ((j + 1 : Nat) : Int) - 1 = j := by omega
        rw [ej]
        obtain ⟨e, he⟩ : ∃ e, n / 2 ^ j = e := ⟨_, rfl⟩
        have hcast : (n : Int) / 2 ^ j = (e : Int) := by rw [← he, Int.natCast_ediv, powCast]
        have hen : e ≤ n := by rw [← he]; exact Nat.div_le_self _ _
        have hand := Go.Proofs.and_one e (by omega)
        have hhalf : n / 2 ^ (j + 1) = e / 2 := by rw [Nat.pow_succ, ← Nat.div_div_eq_div_mul, he]
        have m1 := nmul_any (some ⟨g, 0, none⟩) (some ⟨g, 0, none⟩) kk p kk p z z wr (by omega) (by omega) hN hN (by omega)
        have HV1 : Hid (val z kk * val z kk = b ^ (2 * (e / 2))) := by
          show _ = _
          rw [hv.out, hhalf, ← Int.pow_add]; congr 1; omega
        have HJ : Hid (j ≤ L) := by show _ ≤ _; omega
        have HE : Hid (n / 2 ^ j = e) := he
        clear ej he hhalf hN hs hv
        by_cases hodd : e % 2 = 1
        · rw [hodd] at hand
          go_wp2_with (go_at_call 148; refine m1.mono ?_; rintro e' w1 ⟨g1, k1, p1, z1, rfl, hk1, hN1, hv1, hs1, hb1⟩; clear m1)
          rw [HV1.out] at hv1
          have hk1b : k1 ≤ 632 := size_bound hN1.2.2.1 hs1 (by rw [hv1]; exact HPS.out _ (by omega))
          have hB1 := hB.trans (hb1.mono hB.size)
          have hNb := num_one w1 b (by omega)
          have hbb := below1 w1 (.cells #[.int .u64 b] 22)
          have hsb := sizeL_le (oneW b) 1
          have m2 := nmul_any (some ⟨g1, 0, none⟩) (some ⟨w1.heap.size, 0, none⟩) k1 p1 1 1 z1 (oneW b) (w1.alloc (.cells #[.int .u64 b] 22)) (by omega) (by omega) (hN1.next hbb) hNb (by omega)
          have HBB : Hid (Below w.heap.size w (w1.alloc (.cells #[.int .u64 b] 22))) := hB1.trans (hbb.mono hB1.size)
          clear hN1 hNb hbb
          go_wp2_with (go_at_call 148; refine m2.mono ?_; rintro e' w2 ⟨g2, k2, p2, z2, rfl, hk2, hN2, hv2, hs2, hb2⟩; clear m2)
          have hv3 : val z2 k2 = b ^ e := by
            rw [hv2, hv1, val_one1, ← Int.pow_succ]; congr 1; omega
          have hk2b : k2 ≤ 632 := size_bound hN2.2.2.1 hs2 (by rw [hv3]; exact HPS.out _ (by omega))
          have hB2 := HBB.out.trans (hb2.mono HBB.out.size)
          have HN2 : Hid (Num w2 (some ⟨g2, 0, none⟩) k2 p2 z2) := hN2
          clear hN2
          go_roundw
          case rel => exact ⟨j, k2, g2, p2, z2, HJ.out, by go_num, rfl, hk2b, HN2.out, hs2, by show _ = _; rw [HE.out, hv3], hB2⟩
          case measure => simp [intOf]
        · have he0 : e % 2 = 0 := by omega
          rw [he0] at hand
          go_wp2_with (go_at_call 148; refine m1.mono ?_; rintro e' w1 ⟨g1, k1, p1, z1, rfl, hk1, hN1, hv1, hs1, hb1⟩; clear m1)
          have hv3 : val z1 k1 = b ^ e := by
            rw [hv1, HV1.out]; congr 1; omega
          have hk1b : k1 ≤ 632 := size_bound hN1.2.2.1 hs1 (by rw [hv3]; exact HPS.out _ (by omega))
          have hB1 := hB.trans (hb1.mono hB.size)
          have HN1 : Hid (Num w1 (some ⟨g1, 0, none⟩) k1 p1 z1) := hN1
          clear hN1
          go_roundw
          case rel => exact ⟨j, k1, g1, p1, z1, HJ.out, by go_num, rfl, hk1b, HN1.out, hs1, by show _ = _; rw [HE.out, hv3], hB1⟩
          case measure => simp [intOf]
end Go.Proofs.YtplocajjfoiklaaGreatDoor

namespace Go.Proofs.YtplocajjfoiklaaGreatDoor
open Go.RowKit

theorem digB_of {s : ByteArray} : ∀ (n : Nat), (∀ k, k < n → 48 ≤ sb s k ∧ sb s k ≤ 57) → digB s n = true
  | 0, _ => rfl
  | n + 1, h => by
    unfold digB
    rw [digB_of n fun k hk => h k (by omega)]
    simp; exact h n (by omega)
theorem numV_app {s u : ByteArray} (p : Nat) : ∀ L, (∀ i, i < L → sb u i = sb s (p + i)) → numV s (p + L) = numV s p * 10 ^ L + numV u L
  | 0, _ => by simp [numV]
  | L + 1, h => by
    have e := numV_app p L fun i hi => h i (by omega)
    rw [← Nat.add_assoc]
    simp only [numV]
    rw [e, h L (by omega), Int.pow_succ]
    grind
theorem ext_size {u : ByteArray} {a b : Nat} (hb : b ≤ u.size) : (u.extract a b).size = b - a := by
  rw [ByteArray.size_extract]; omega
theorem ext_sb {u : ByteArray} {a b i : Nat} (hb : b ≤ u.size) (hi : a + i < b) : sb (u.extract a b) i = sb u (a + i) := by
  unfold sb
  rw [dif_pos (show i < (u.extract a b).size by rw [ext_size hb]; omega), dif_pos (show a + i < u.size by omega)]
  simp [ByteArray.getElem_extract]

set_option maxHeartbeats 1000000 in
theorem nread_ok (s : ByteArray) (w : World) (hd : isDigB s = true) (hl : s.size ≤ 12000) :
    Calls Tryz.prog 191 #[.string s] w fun e w' => ∃ o k cap z, e = .returned (.tuple #[.slice o k cap, .int .i64 0]) ∧ k ≤ 12000 ∧ Num w' o k cap z ∧ val z k = numV s s.size ∧ sizeL z k = k ∧ Below w.heap.size w w' := by
  have ha := allDigits_any s w (by omega)
  rw [hd] at ha
  have hl' : (s.size : Int) ≤ 12000 := by omega
  have hdig : ∀ k, k < s.size → 48 ≤ sb s k ∧ sb s k ≤ 57 := by
    unfold isDigB at hd; simp at hd; exact digB_at s.size hd.1
  have HDG : Hid (∀ k, k < s.size → 48 ≤ sb s k ∧ sb s k ≤ 57) := hdig
  clear hd hdig
  go_enter Tryz.func191, Tryz.ntmps191
  go_wp2_with (go_at_call 222; refine ha.mono ?_; rintro e w' ⟨rfl, rfl⟩)
  clear ha
  go_loopw [0, 4, 5] (fun t0 t4 u5 wr => ∃ (p n c : Nat) (u : ByteArray) (ao : Option Addr) (z : Nat → Int), p ≤ s.size ∧ t0 = .string u ∧ t4 = .slice ao n c ∧ n ≤ p ∧ u.size = s.size - p ∧ (∀ i, i < u.size → sb u i = sb s (p + i)) ∧ Row w.heap.size ao n c z wr ∧ val z n = numV s p ∧ Below w.heap.size w wr) (fun t0 _ _ _ => match t0 with | .string u => u.size | _ => 0)
  case atStart => exact ⟨0, 0, 0, s, none, fun _ => 0, Nat.zero_le _, rfl, rfl, Nat.le_refl _, rfl, fun i _ => by rw [Nat.zero_add], ⟨World.ownsRow_nil _ _ _ _, fun _ => (by decide : (0 : Int) ≤ 0 ∧ (0 : Int) ≤ 18446744073709551615), fun _ _ => rfl, rfl, Nat.le_refl _⟩, rfl, Below.refl _ _⟩
  case round =>
    obtain ⟨p, n, c, u, ao, z, hp, rfl, rfl, hnp, hus, hub, hR, hv, hB⟩ := hrel
    by_cases h0 : u.size = 0
    · have e1 : p = s.size := by omega
      have hu0 : (u.size : Int) = 0 := by omega
      have HN : Hid (Num wr ao n c z) := num_of_owns' hR.2.1 hR.2.2.1 hR.1
      have HV : Hid (val z n = numV s s.size) := by show _ = _; rw [hv, e1]
      have HT : Hid (sizeL z n = n) := hR.2.2.2.1
      have HB : Hid (Below w.heap.size w wr) := hB
      clear hR hv hB hub
      go_wp2
      go_ret2
      exact ⟨ao, n, c, z, rfl, by omega, HN.out, HV.out, HT.out, HB.out⟩
    · have hu0 : (0 : Int) < u.size := by omega
      obtain ⟨L, hL⟩ : ∃ L : Nat, (if u.size ≤ 19 then u.size else 19) = L := ⟨_, rfl⟩
      have hL1 : 0 < L ∧ L ≤ 19 ∧ L ≤ u.size := by split at hL <;> omega
      have hmin : min (u.size : Int) 19 = L := by split at hL <;> omega
      have hLu : (L : Int) ≤ u.size := by omega
      have es : (u.extract 0 L).size = L := by rw [ext_size hL1.2.2]; omega
      have es2 : (u.extract L u.size).size = u.size - L := ext_size (Nat.le_refl _)
      have eb : ∀ i, i < L → sb (u.extract 0 L) i = sb s (p + i) := fun i hi => by rw [ext_sb hL1.2.2 (by omega), Nat.zero_add, hub i (by omega)]
      have eb2 : Hid (∀ i, i < (u.extract L u.size).size → sb (u.extract L u.size) i = sb s (p + L + i)) := fun i hi => by
        rw [es2] at hi
        rw [ext_sb (Nat.le_refl _) (by omega), hub (L + i) (by omega), Nat.add_assoc]
      have hap := appendPart_any w.heap.size ao n c z (u.extract 0 L) wr (by omega) (by omega) (by rw [es]; exact digB_of L fun k hk => by rw [eb k hk]; exact HDG.out (p + k) (by omega)) hR
      rw [es] at hap
      have HV : Hid (val z n * 10 ^ L + numV (u.extract 0 L) L = numV s (p + L)) := by show _ = _; rw [numV_app p L eb, hv]
      have HB : Hid (Below w.heap.size w wr) := hB
      have HE2 : Hid ((u.extract L u.size).size = s.size - (p + L)) := by show _ = _; rw [es2]; omega
      have HE3 : Hid ((u.extract L u.size).size < u.size) := by show _ < _; rw [es2]; omega
      have hpl : p + L ≤ s.size := by omega
      have hnk : n + 1 ≤ p + L := by omega
      clear hR hv hB hub es es2 eb hL hus
      go_wp2_with (go_at_call 223; refine hap.mono ?_; rintro e w1 ⟨o1, k1, p1, z1, rfl, hk1, hR1, hv1, hB1⟩; clear hap)
      go_roundw
      case rel => exact ⟨p + L, k1, p1, _, o1, z1, hpl, rfl, rfl, by omega, HE2.out, eb2.out, hR1, by rw [hv1, HV.out], HB.out.trans hB1⟩
      case measure => exact HE3.out
end Go.Proofs.YtplocajjfoiklaaGreatDoor
