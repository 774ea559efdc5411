/-
  Texts that the proof leans on, joined: Lvm, Nw, Ka, Gm, Ga, Gb, Gc, Gd.
-/
import Derived.Test.YtplocajjfoiklaaGreatDoorL3
import Derived.Test.YtplocajjfoiklaaGreatDoorL7
import Derived.Test.YtplocajjfoiklaaGreatDoorL5
import Derived.Lib.TrimByte
import Derived.Lib.ItoaLen
import Derived.Test.YtplocajjfoiklaaGreatDoorProg
import Derived.WalkKit
import Derived.RowKit
import Derived.Deep.QuietTactic
import Derived.BigQuiet
import Derived.Lib.Strings
set_option linter.unusedSectionVars false
set_option linter.unusedVariables false
set_option linter.unusedSimpArgs false
set_option maxRecDepth 20000
namespace Go.Proofs.YtplocajjfoiklaaGreatDoor
open Go.RowKit

/-- words shifted down, by whole words and bits: their value -/
theorem shrW_val {y : Nat → Int} {n q r A : Nat} (hy : Words y) (hz : ∀ i, n ≤ i → y i = 0) (hr : r < 64) (m : Nat) (hm : n ≤ m) (hA : val y n = A) : val (shrW y q r) m = ((A / 2 ^ (64 * q + r) : Nat) : Int) := by
  have hw : Words (fun i => y (q + i)) := fun i => hy (q + i)
  have e1 : shrW y q r = shrW (fun i => y (q + i)) 0 r := by
    funext j; unfold shrW; simp only [Nat.zero_add, Nat.add_assoc]
  have h1 := dn_val hw hr m
  have h2 : y (q + m) = 0 := hz _ (by omega)
  simp only [h2, Int.zero_emod, Int.zero_mul, Int.add_zero, Nat.add_zero] at h1
  have h3 := val_split y q m
  have h4 : val (segW y q m) m = val (fun i => y (q + i)) m := val_congr m fun i hi => segW_lt y q m i hi
  rw [h4, val_more hz (q + m) (by omega), hA] at h3
  rw [e1]
  have hb1 := val_bd hy q
  have hb2 := val_bd (shrW_words hw (q := 0) (r := r)) m
  have hp : (0 : Int) < 2 ^ r := p2_pos r
  have hm1 := Int.emod_nonneg (y q) (Int.ne_of_gt hp)
  have hm2 := Int.emod_lt_of_pos (y q) hp
  generalize val (shrW (fun i => y (q + i)) 0 r) m = S at *
  generalize val (fun i => y (q + i)) m = Z at *
  have eZ : Z / 2 ^ r = S := by
    rw [← h1, Int.add_comm, Int.add_mul_ediv_right _ _ (Int.ne_of_gt hp), Int.ediv_eq_zero_of_lt hm1 hm2, Int.zero_add]
  have eA : (A : Int) / 18446744073709551616 ^ q = Z := by
    rw [h3, Int.add_mul_ediv_right _ _ (Int.ne_of_gt (pw_pos q)), Int.ediv_eq_zero_of_lt hb1.1 hb1.2, Int.zero_add]
  rw [← eZ, ← eA, Int.natCast_ediv, Int.ediv_ediv_of_nonneg (Int.le_of_lt (pw_pos q)), p64']
  simp
end Go.Proofs.YtplocajjfoiklaaGreatDoor

namespace Go.Proofs.YtplocajjfoiklaaGreatDoor
open Go.RowKit

theorem bnx {w0 W W' : World} (h : Below w0.heap.size w0 W) (hb : Below W.heap.size W W') : Below w0.heap.size w0 W' := h.trans (hb.mono h.size)
/-- how many bits a number has -/
def bl (V : Nat) : Nat := if V = 0 then 0 else Nat.log2 V + 1
theorem bl_le {V k : Nat} : bl V ≤ k ↔ V < 2 ^ k := by
  unfold bl
  by_cases h : V = 0
  · subst h; simp; exact Nat.two_pow_pos k
  · rw [if_neg h]
    have := Nat.log2_lt h (k := k)
    omega
theorem bl_ge {V k : Nat} : k < bl V ↔ 2 ^ k ≤ V := by
  have := bl_le (V := V) (k := k)
  omega
theorem bl_zero {V : Nat} : bl V = 0 ↔ V = 0 := by
  unfold bl; by_cases h : V = 0 <;> simp [h]
theorem bl_eq {V L : Nat} (h1 : 2 ^ (L - 1) ≤ V) (h2 : V < 2 ^ L) : bl V = L := by
  have a := bl_le.2 h2
  by_cases h : L = 0
  · omega
  · have b := bl_ge.2 h1
    omega
/-- a number in a list of words, at most K of them -/
def Nt (K V : Nat) (v : Value) (w : World) : Prop := ∃ a k cap z, v = .slice a k cap ∧ k ≤ K ∧ Num w a k cap z ∧ val z k = (V : Int)
theorem Nt.next {K V : Nat} {v : Value} {w w' : World} (h : Nt K V v w) (hb : Below w.heap.size w w') : Nt K V v w' := by
  obtain ⟨a, k, cap, z, h1, h2, h3, h4⟩ := h
  exact ⟨a, k, cap, z, h1, h2, h3.next hb, h4⟩
theorem Nt.more {K K' V : Nat} {v : Value} {w : World} (h : Nt K V v w) (hk : K ≤ K') : Nt K' V v w := by
  obtain ⟨a, k, cap, z, h1, h2, h3, h4⟩ := h
  exact ⟨a, k, cap, z, h1, by omega, h3, h4⟩
/-- without noughts at its end -/
def Nz (K V : Nat) (v : Value) (w : World) : Prop := ∃ a k cap z, v = .slice a k cap ∧ k ≤ K ∧ Num w a k cap z ∧ val z k = (V : Int) ∧ sizeL z k = k
theorem Nz.next {K V : Nat} {v : Value} {w w' : World} (h : Nz K V v w) (hb : Below w.heap.size w w') : Nz K V v w' := by
  obtain ⟨a, k, cap, z, h1, h2, h3, h4, h5⟩ := h
  exact ⟨a, k, cap, z, h1, h2, h3.next hb, h4, h5⟩
theorem Nz.nt {K V : Nat} {v : Value} {w : World} (h : Nz K V v w) : Nt K V v w := by
  obtain ⟨a, k, cap, z, h1, h2, h3, h4, h5⟩ := h
  exact ⟨a, k, cap, z, h1, h2, h3, h4⟩
theorem size_zero {z : Nat → Int} {k V : Nat} (hz : Words z) (hv : val z k = (V : Int)) : sizeL z k = 0 ↔ V = 0 := by
  constructor
  · intro h
    have := val_bare (x := z) k
    rw [h] at this
    have h0 : val z 0 = 0 := rfl
    omega
  · intro h
    subst h
    rcases Nat.eq_zero_or_pos (sizeL z k) with h | h
    · exact h
    · exfalso
      have := val_longer (x := z) (y := z) hz hz (n := 0) (m := sizeL z k) h (sizeL_sizeL z k)
      rw [val_bare] at this
      have h0 : val z 0 = 0 := rfl
      omega
theorem len_bl {z : Nat → Int} {k V : Nat} (hz : Words z) (hv : val z k = (V : Int)) : lenL z k = (bl V : Int) := by
  rcases Nat.eq_zero_or_pos (sizeL z k) with h | h
  · have h0 := (size_zero hz hv).1 h
    unfold lenL; rw [if_pos h, h0]; rfl
  · obtain ⟨L, h1, h2, h3⟩ := len_bd hz h
    rw [hv] at h2 h3
    have e : bl V = L + 1 := by
      have e1 : ((2 : Int) ^ L) = ((2 ^ L : Nat) : Int) := by simp
      have e2 : ((2 : Int) ^ (L + 1)) = ((2 ^ (L + 1) : Nat) : Int) := by simp
      rw [e1] at h2
      rw [e2] at h3
      exact bl_eq (by rw [Nat.add_sub_cancel]; omega) (by omega)
    rw [e, h1]; omega
/-- how many words -/
theorem size_bl {z : Nat → Int} {k V m : Nat} (hz : Words z) (hv : val z k = (V : Int)) : sizeL z k ≤ m ↔ bl V ≤ 64 * m := by
  have hl := len_bl hz hv
  unfold lenL at hl
  rcases Nat.eq_zero_or_pos (sizeL z k) with h | h
  · rw [if_pos h] at hl; omega
  · rw [if_neg (by omega)] at hl
    have ht := sizeL_top k h
    have hw := hz (sizeL z k - 1)
    have hb := bitLen_spec (z (sizeL z k - 1)).toNat (by omega) (by omega)
    omega
theorem nlen_v {K V : Nat} {v : Value} {w : World} (hK : K < 100000000) (h : Nt K V v w) :
    Calls Tryz.prog 77 #[v] w fun e w' => e = .returned (.int .i64 (bl V : Int)) ∧ w = w' := by
  obtain ⟨a, k, cap, z, rfl, hk, hN, hv⟩ := h
  refine (nlen_any a k cap z w (by omega) hN).mono fun e w' ⟨h1, h2⟩ => ⟨?_, h2⟩
  rw [h1, len_bl hN.2.2.1 hv]
theorem nshl_v {K V : Nat} {v : Value} {w : World} (d : Nat) (hK : K < 100000000) (h : Nt K V v w) (hd : bl V + d ≤ 127000) :
    Calls Tryz.prog 179 #[v, .int .i64 (d : Int)] w fun e w' => ∃ r, e = .returned (.tuple #[r, .int .i64 0]) ∧ Nz 2001 (V * 2 ^ d) r w' ∧ Below w.heap.size w w' := by
  obtain ⟨a, k, cap, z, rfl, hk, hN, hv⟩ := h
  have hs := (size_bl (m := (bl V + 63) / 64) hN.2.2.1 hv).2 (by omega)
  refine (nshl_any a k cap z d w (by omega) hN (by omega) (by omega)).mono fun e w' ⟨g, k', cap', z', h1, h2, h3, h4, h5, h6⟩ => ⟨_, h1, ⟨_, k', cap', z', rfl, h2, h3, ?_, h5⟩, h6⟩
  rw [h4, hv]; simp
theorem ncmp_v {K K' V V' : Nat} {v v' : Value} {w : World} (hK : K < 100000000) (hK' : K' < 100000000) (h : Nt K V v w) (h' : Nt K' V' v' w) :
    Calls Tryz.prog 131 #[v, v'] w fun e w' => e = .returned (.int .i64 (sgn (V : Int) (V' : Int))) ∧ Below w.heap.size w w' := by
  obtain ⟨a, k, cap, z, rfl, hk, hN, hv⟩ := h
  obtain ⟨a', k', cap', z', rfl, hk', hN', hv'⟩ := h'
  have := ncmp_b a a' k cap k' cap' z z' w (by omega) (by omega) hN hN'
  rw [hv, hv'] at this
  exact this
theorem nadd_v {K K' V V' : Nat} {v v' : Value} {w : World} (hK : K < 100000000) (hK' : K' < 100000000) (h : Nt K V v w) (h' : Nt K' V' v' w) :
    Calls Tryz.prog 134 #[v, v'] w fun e w' => ∃ r, e = .returned r ∧ Nz (K + K' + 1) (V + V') r w' ∧ Below w.heap.size w w' := by
  obtain ⟨a, k, cap, z, rfl, hk, hN, hv⟩ := h
  obtain ⟨a', k', cap', z', rfl, hk', hN', hv'⟩ := h'
  have s1 := sizeL_le z k
  have s2 := sizeL_le z' k'
  refine (nadd_any a a' k cap k' cap' z z' w (by omega) (by omega) hN hN').mono fun e w' ⟨g, k2, cap2, z2, h1, h2, h3, h4, h5, h6⟩ => ⟨_, h1, ⟨_, k2, cap2, z2, rfl, by omega, h3, ?_, h5⟩, h6⟩
  rw [h4, hv, hv']; omega
theorem ndiv_v {K K' V V' : Nat} {v v' : Value} {w : World} (hK : K < 100000000) (hK' : K' < 100000000) (h : Nt K V v w) (h' : Nt K' V' v' w) (hb : bl V ≤ 128000) (hb' : bl V' ≤ 128000) (h0 : V' ≠ 0) :
    Calls Tryz.prog 132 #[v, v'] w fun e w' => ∃ q r, e = .returned (.tuple #[q, r, .int .i64 0]) ∧ Nz 2001 (V / V') q w' ∧ Nz 2001 (V % V') r w' ∧ Below w.heap.size w w' := by
  obtain ⟨a, k, cap, z, rfl, hk, hN, hv⟩ := h
  obtain ⟨a', k', cap', z', rfl, hk', hN', hv'⟩ := h'
  have s1 := (size_bl (m := 2000) hN.2.2.1 hv).2 (by omega)
  have s2 := (size_bl (m := 2000) hN'.2.2.1 hv').2 (by omega)
  have s3 : 0 < sizeL z' k' := Nat.pos_of_ne_zero fun e => h0 ((size_zero hN'.2.2.1 hv').1 e)
  refine (ndiv_any a a' k cap k' cap' z z' w (by omega) (by omega) hN hN' s1 s2 s3).mono fun e w' ⟨o, k2, cap2, z2, o', k3, cap3, z3, h1, h2, h3, h4, h5, h6, h7, h8, h9, h10⟩ => ⟨_, _, h1, ⟨_, _, _, _, rfl, h2, h4, ?_, h8⟩, ⟨_, _, _, _, rfl, h3, h5, ?_, h9⟩, h10⟩
  · rw [h6, hv, hv']; simp
  · rw [h7, hv, hv']; simp
theorem nshr_v {K V : Nat} {v : Value} {w : World} (hK : K < 100000000) (h : Nt K V v w) :
    Calls Tryz.prog 82 #[v, .int .i64 1] w fun e w' => ∃ r b, e = .returned (.tuple #[r, .bool b]) ∧ Nz K (V / 2) r w' ∧ Below w.heap.size w w' := by
  obtain ⟨a, k, cap, z, rfl, hk, hN, hv⟩ := h
  refine (nshr_all a k cap z 1 w (by omega) hN (by decide)).mono fun e w' ⟨o, k2, cap2, h1, h2, h3, h4, h5⟩ => ⟨_, _, h1, ⟨_, _, _, _, rfl, by omega, h3, ?_, h4⟩, h5⟩
  have hz := h3.2.2.2.1
  have e1 : shrF z 1 = shrW z 0 1 := by unfold shrF; rw [if_neg (by decide)]; rfl
  rw [← val_more hz k h2, e1]
  exact shrW_val hN.2.2.1 hN.2.2.2.1 (by decide) k (Nat.le_refl _) hv
end Go.Proofs.YtplocajjfoiklaaGreatDoor

namespace Go.Proofs.YtplocajjfoiklaaGreatDoor
open Go.RowKit

theorem snoc_ind {P : List UInt8 → Prop} (h0 : P []) (h1 : ∀ m y, P m → P (m ++ [y])) (l : List UInt8) : P l := by
  have : ∀ r : List UInt8, P r.reverse := fun r => by
    induction r with
    | nil => exact h0
    | cons y r ih => rw [List.reverse_cons]; exact h1 _ _ ih
  have h := this l.reverse
  rwa [List.reverse_reverse] at h
/-- a digit's sign, and the digit of a sign -/
def hxd (v : Nat) : UInt8 := UInt8.ofNat (if v < 10 then 48 + v else 87 + v)
def hxB (y : UInt8) : Bool := decide ((48 ≤ y.toNat ∧ y.toNat ≤ 57) ∨ (97 ≤ y.toNat ∧ y.toNat ≤ 102))
def hxw (y : UInt8) : Nat := if y.toNat ≤ 57 then y.toNat - 48 else y.toNat - 87
theorem hxd_all : ∀ v, v < 16 → hxB (hxd v) = true ∧ hxw (hxd v) = v ∧ (hxd v == 48) = decide (v = 0) := by decide
theorem hxw_lt {y : UInt8} (h : hxB y = true) : hxw y < 16 := by
  unfold hxB at h
  have := of_decide_eq_true h
  unfold hxw
  split <;> omega
/-- the number of hexadecimal digits -/
def hxV (l : List UInt8) : Nat := l.foldl (fun a y => a * 16 + hxw y) 0
theorem hxV_nil : hxV [] = 0 := rfl
theorem hxV_snoc (l : List UInt8) (y : UInt8) : hxV (l ++ [y]) = hxV l * 16 + hxw y := by
  unfold hxV
  rw [List.foldl_append]
  rfl
theorem hxV_app (l m : List UInt8) : hxV (l ++ m) = hxV l * 16 ^ m.length + hxV m := by
  refine snoc_ind (P := fun m => hxV (l ++ m) = hxV l * 16 ^ m.length + hxV m) ?_ ?_ m
  · simp [hxV_nil]
  · intro m y ih
    rw [← List.append_assoc, hxV_snoc, ih, hxV_snoc, List.length_append, List.length_cons, List.length_nil, Nat.pow_succ]
    grind
theorem hxV_lt {l : List UInt8} (h : l.all hxB = true) : hxV l < 16 ^ l.length := by
  revert h
  refine snoc_ind (P := fun l => l.all hxB = true → hxV l < 16 ^ l.length) ?_ ?_ l
  · intro _; decide
  · intro m y ih h
    rw [List.all_append, Bool.and_eq_true] at h
    have h1 := ih h.1
    have h2 : hxw y < 16 := hxw_lt (by simpa using h.2)
    rw [hxV_snoc, List.length_append, List.length_cons, List.length_nil, Nat.pow_succ]
    omega
/-- c hexadecimal digits of a number -/
def hxL (N : Nat) : Nat → List UInt8
  | 0 => []
  | c + 1 => hxL (N / 16) c ++ [hxd (N % 16)]
theorem hxL_len (N c : Nat) : (hxL N c).length = c := by
  induction c generalizing N with
  | zero => rfl
  | succ c ih => simp [hxL, ih]
theorem hxL_all (N c : Nat) : (hxL N c).all hxB = true := by
  induction c generalizing N with
  | zero => rfl
  | succ c ih =>
    rw [hxL, List.all_append, ih, Bool.true_and]
    simp [(hxd_all (N % 16) (Nat.mod_lt _ (by decide))).1]
theorem hxL_val {N c : Nat} (h : N < 16 ^ c) : hxV (hxL N c) = N := by
  induction c generalizing N with
  | zero => simp at h; rw [h]; rfl
  | succ c ih =>
    rw [hxL, hxV_snoc, ih (by rw [Nat.pow_succ] at h; omega), (hxd_all (N % 16) (Nat.mod_lt _ (by decide))).2.1]
    omega
/-- the i-th of them -/
theorem hxL_get {N c i : Nat} (h : i < c) : (hxL N c)[i]? = some (hxd (N / 16 ^ (c - 1 - i) % 16)) := by
  induction c generalizing N with
  | zero => omega
  | succ c ih =>
    rw [hxL]
    by_cases hi : i < c
    · rw [List.getElem?_append_left (by rw [hxL_len]; exact hi), ih hi]
      congr 3
      rw [Nat.div_div_eq_div_mul, show c + 1 - 1 - i = (c - 1 - i) + 1 by omega, Nat.pow_succ, Nat.mul_comm]
    · have : i = c := by omega
      subst this
      rw [List.getElem?_append_right (by rw [hxL_len]; exact Nat.le_refl _), hxL_len]
      simp
/-- without noughts at the end -/
def hxS (l : List UInt8) : List UInt8 := Lib.trimRightB l 48
theorem hxS_zero (l : List UInt8) : hxS (l ++ [48]) = hxS l := by
  unfold hxS Lib.trimRightB
  rw [List.reverse_append]
  rfl
theorem hxS_else (l : List UInt8) {y : UInt8} (h : (y == 48) = false) : hxS (l ++ [y]) = l ++ [y] := by
  unfold hxS Lib.trimRightB
  rw [List.reverse_append, show [y].reverse ++ l.reverse = y :: l.reverse from rfl, List.dropWhile_cons, if_neg (by rw [h]; decide)]
  simp
theorem hxS_val {l : List UInt8} (h : l.all hxB = true) : (hxS l).all hxB = true ∧ (hxS l).length ≤ l.length ∧ hxV l = hxV (hxS l) * 16 ^ (l.length - (hxS l).length) := by
  revert h
  refine snoc_ind (P := fun l => l.all hxB = true → (hxS l).all hxB = true ∧ (hxS l).length ≤ l.length ∧ hxV l = hxV (hxS l) * 16 ^ (l.length - (hxS l).length)) ?_ ?_ l
  · intro _; exact ⟨rfl, Nat.le_refl _, rfl⟩
  · intro m y ih h
    by_cases hy : (y == 48) = true
    · have : y = 48 := by simpa using hy
      subst this
      rw [List.all_append, Bool.and_eq_true] at h
      obtain ⟨i1, i2, i3⟩ := ih h.1
      rw [hxS_zero, hxV_snoc, List.length_append, List.length_cons, List.length_nil, i3]
      refine ⟨i1, by omega, ?_⟩
      rw [show m.length + (0 + 1) - (hxS m).length = (m.length - (hxS m).length) + 1 by omega, Nat.pow_succ, show hxw 48 = 0 from rfl]
      grind
    · have hy' : (y == 48) = false := by simpa using hy
      rw [hxS_else m hy']
      exact ⟨h, Nat.le_refl _, by rw [Nat.sub_self, Nat.pow_zero, Nat.mul_one]⟩
end Go.Proofs.YtplocajjfoiklaaGreatDoor

namespace Go.Proofs.YtplocajjfoiklaaGreatDoor
open Go.RowKit

/-- a text of these bytes -/
def B (l : List UInt8) : ByteArray := ⟨l.toArray⟩
theorem B_size (l : List UInt8) : (B l).size = l.length := rfl
theorem B_get {l : List UInt8} {i : Nat} (h : i < (B l).size) : (B l)[i]'h = l[i]'(by rwa [B_size] at h) := by
  show (B l).data[i]'_ = _
  simp [B]
theorem B_ext (l : List UInt8) (a b : Nat) : (B l).extract a b = B ((l.take b).drop a) := by
  apply ByteArray.ext
  rw [ByteArray.data_extract]
  show l.toArray.extract a b = ((l.take b).drop a).toArray
  rw [List.extract_toArray, List.extract_eq_take_drop, List.drop_take]
theorem B_app (a b : List UInt8) : B a ++ B b = B (a ++ b) := by
  apply ByteArray.ext
  rw [ByteArray.data_append]
  show a.toArray ++ b.toArray = (a ++ b).toArray
  simp
/-- byte i -/
def by_ (l : List UInt8) (i : Nat) : Int := if h : i < l.length then ((l[i]'h).toNat : Int) else 0
theorem by_lt {l : List UInt8} {i : Nat} (h : i < (B l).size) : (((B l)[i]'h).toNat : Int) = by_ l i := by
  rw [B_get h]; unfold by_; rw [dif_pos (by rwa [B_size] at h)]
theorem by_bd (l : List UInt8) (i : Nat) : 0 ≤ by_ l i ∧ by_ l i ≤ 255 := by
  unfold by_; split
  · rename_i h; have := (l[i]'h).toNat_lt; omega
  · omega
theorem by_succ (c : UInt8) (r : List UInt8) (i : Nat) : by_ (c :: r) (i + 1) = by_ r i := by
  unfold by_
  by_cases h : i < r.length
  · rw [dif_pos h, dif_pos (by simpa using h)]; rfl
  · rw [dif_neg h, dif_neg (by simpa using h)]
theorem by_zero (c : UInt8) (r : List UInt8) : by_ (c :: r) 0 = (c.toNat : Int) := by simp [by_]
/-- a digit -/
def dg (c : UInt8) : Bool := decide (48 ≤ c.toNat ∧ c.toNat ≤ 57)
/-- the digits ahead -/
def dgs (l : List UInt8) : List UInt8 := l.takeWhile dg
def rst (l : List UInt8) : List UInt8 := l.dropWhile dg
theorem dgs_rst (l : List UInt8) : dgs l ++ rst l = l := List.takeWhile_append_dropWhile
theorem dgs_le (l : List UInt8) : (dgs l).length ≤ l.length := by
  have := congrArg List.length (dgs_rst l)
  rw [List.length_append] at this; omega
theorem take_dgs (l : List UInt8) : l.take (dgs l).length = dgs l := by
  conv => lhs; arg 2; rw [← dgs_rst l]
  simp
theorem drop_dgs (l : List UInt8) : l.drop (dgs l).length = rst l := by
  conv => lhs; arg 2; rw [← dgs_rst l]
  simp
theorem dgs_at : ∀ (l : List UInt8) (i : Nat), i < (dgs l).length → 48 ≤ by_ l i ∧ by_ l i ≤ 57
  | [], i, h => by simp [dgs] at h
  | c :: r, i, h => by
    unfold dgs at h
    rw [List.takeWhile_cons] at h
    split at h
    · rename_i hc
      unfold dg at hc
      simp at hc
      cases i with
      | zero => simp [by_]; omega
      | succ i =>
        have := dgs_at r i (by simpa [dgs] using h)
        rw [by_succ]
        exact this
    · simp at h
theorem dgs_stop : ∀ (l : List UInt8), (dgs l).length < l.length → ¬ (48 ≤ by_ l (dgs l).length ∧ by_ l (dgs l).length ≤ 57)
  | [], h => by simp [dgs] at h
  | c :: r, h => by
    unfold dgs at h ⊢
    rw [List.takeWhile_cons] at h ⊢
    split at h
    · rename_i hc
      rw [if_pos hc]
      have := dgs_stop r (by simpa [dgs] using h)
      rw [List.length_cons, by_succ]
      exact this
    · rename_i hc
      rw [if_neg hc]
      unfold dg at hc
      simp at hc
      simp [by_]
      intro h1
      omega
end Go.Proofs.YtplocajjfoiklaaGreatDoor

namespace Go.Proofs.YtplocajjfoiklaaGreatDoor
open Go.RowKit

theorem gbcell {W w1 : World} (hb : Below W.heap.size W w1) : (∀ b o, b < W.heap.size → w1.cell? ⟨b, o, none⟩ = W.cell? ⟨b, o, none⟩) ∧ (∀ b o, b < W.heap.size → w1.frozen? ⟨b, o, none⟩ = W.frozen? ⟨b, o, none⟩) :=
  ⟨fun b o h => hb.cell (p := ⟨b, o, none⟩) h, fun b o h => hb.frozen (p := ⟨b, o, none⟩) h⟩
theorem gbelow_drewN {B : Nat} {a w : World} {m : Nat} (h : Below B a w) : Below B a (w.drewN m) := ⟨h.os, h.tape, h.output, h.size, h.block⟩
theorem gbnext {w0 W W' : World} (h : Below w0.heap.size w0 W) (hb : Below W.heap.size W W') : Below w0.heap.size w0 W' := h.trans (hb.mono h.size)
theorem glt_below {n g : Nat} {W W' : World} (hb : Below n W W') (h : g < W.heap.size) : g < W'.heap.size := Nat.lt_of_lt_of_le h hb.size
theorem gcell_set_map (W : World) (b i : Nat) (v : Value) : (W.setCell ⟨b, i, none⟩ v).cell? ⟨b, i, none⟩ = (W.cell? ⟨b, i, none⟩).map fun _ => v := by
  unfold World.cell? World.setCell
  simp only [Array.getElem?_modify, if_true]
  cases h : W.heap[b]? with
  | none => simp
  | some o =>
    cases o with
    | cells c e fr =>
      simp only [Option.map_some, Option.isSome_none, Bool.false_eq_true, if_false]
      by_cases hi : i < c.size
      · simp [hi]
      · simp [hi]
    | _ => simp
theorem B_toList (l : List UInt8) : (B l).toList = l := by rw [Lib.toList_data]; rfl

set_option maxHeartbeats 1000000 in
theorem ldig_any (l : List UInt8) (w : World) (hs : l.length < 4294967296) :
    Calls Tryz.prog 139 #[.string (B l)] w fun e w' => e = .returned (.tuple #[.string (B (dgs l)), .string (B (rst l))]) ∧ Below w.heap.size w w' := by
  have hsz := B_size l
  have E1 : (B l).extract 0 (dgs l).length = B (dgs l) := by rw [B_ext, List.drop_zero, take_dgs]
  have E2 : (B l).extract (dgs l).length (B l).size = B (rst l) := by rw [B_ext, B_size, List.take_length, drop_dgs]
  rw [hsz] at E2
  have hle := dgs_le l
  have HA : Hid (∀ i, i < (dgs l).length → 48 ≤ by_ l i ∧ by_ l i ≤ 57) := dgs_at l
  have HS : Hid ((dgs l).length < l.length → ¬ (48 ≤ by_ l (dgs l).length ∧ by_ l (dgs l).length ≤ 57)) := dgs_stop l
  generalize dgs l = d at *
  go_enter Tryz.func139, Tryz.ntmps139
  go_wp2
  go_loop [4] (fun i => ∃ k : Nat, k ≤ d.length ∧ i = .int .i64 k) (fun i => d.length - (intOf i).toNat)
  case atStart => exact ⟨0, Nat.zero_le _, rfl⟩
  case round =>
    obtain ⟨k, hk, rfl⟩ := hrel
    by_cases hlt : k < d.length
    · have hki : (k : Int) < (B l).size := by omega
      have hsb := by_lt (l := l) (i := k) (by omega)
      have hbd := HA.out k hlt
      go_wp2
      go_round
      case rel => exact ⟨k + 1, by omega, by go_num⟩
      case measure => simp [intOf]; omega
    · obtain rfl : k = d.length := by omega
      by_cases he : d.length < l.length
      · have hki : (d.length : Int) < (B l).size := by omega
        have hsb := by_lt (l := l) (i := d.length) (by omega)
        have hbd := by_bd l d.length
        have hst := HS.out he
        by_cases h1 : by_ l d.length < 48
        · go_wp2
          go_quiet (fail)
          go_wp2
          go_ret2
          exact ⟨rfl, gbelow_drewN (Below.refl _ _)⟩
        · have h2 : 57 < by_ l d.length := by omega
          go_wp2
          go_quiet (fail)
          go_wp2
          go_ret2
          exact ⟨rfl, gbelow_drewN (Below.refl _ _)⟩
      · have hki : (d.length : Int) = (B l).size := by omega
        have hki2 : (d.length : Int) = l.length := by omega
        have hdl : d.length = l.length := by omega
        have X1 : Hid (B d = (B l).extract 0 l.length) := by show _ = _; rw [← E1, hdl]
        have X2 : Hid (B (rst l) = ByteArray.empty) := by
          show _ = _
          rw [← E2, hdl, B_ext, List.take_length, List.drop_length]; rfl
        go_wp2
        go_quiet (fail)
        go_wp2
        go_ret2
        refine ⟨?_, gbelow_drewN (Below.refl _ _)⟩
        rw [X1.out, X2.out]
        rfl
/-- the sign ahead, and what stands behind it -/
def gsgB : List UInt8 → Bool
  | c :: _ => decide ((c.toNat : Int) = 45)
  | [] => false
def sgR : List UInt8 → List UInt8
  | c :: r => if (c.toNat : Int) = 45 ∨ (c.toNat : Int) = 43 then r else c :: r
  | [] => []
theorem B_tail (c : UInt8) (r : List UInt8) : (B (c :: r)).extract 1 (B (c :: r)).size = B r := by
  rw [B_ext, B_size, List.take_length]; rfl
theorem B_nil : B [] = ⟨#[]⟩ := rfl
set_option maxHeartbeats 1000000 in
theorem lsign_any (l : List UInt8) (w : World) (hs : l.length < 4294967296) :
    Calls Tryz.prog 85 #[.string (B l)] w fun e w' => e = .returned (.tuple #[.bool (gsgB l), .string (B (sgR l))]) ∧ Below w.heap.size w w' := by
  have htl := B_toList
  cases l with
  | nil =>
    have hsz : (B []).size = 0 := rfl
    go_enter Tryz.func85, Tryz.ntmps85
    go_wp2
    go_ret2
    exact ⟨rfl, Below.refl _ _⟩
  | cons c r =>
    have hsz := B_size (c :: r)
    have hln : (c :: r).length = r.length + 1 := rfl
    have hbt := B_tail c r
    have hsb := by_lt (l := c :: r) (i := 0) (by rw [hsz, hln]; omega)
    rw [by_zero] at hsb
    rw [hsz, hln] at hbt
    have hbd := c.toNat_lt
    rw [List.length_cons] at hs
    by_cases h1 : (c.toNat : Int) = 45
    · have HX : Hid (sgR (c :: r) = r ∧ gsgB (c :: r) = true) := ⟨if_pos (Or.inl h1), decide_eq_true h1⟩
      rw [HX.out.1, HX.out.2]
      go_enter Tryz.func85, Tryz.ntmps85
      go_wp2
      go_quiet (fail)
      go_wp2
      go_ret2
      exact ⟨rfl, gbelow_drewN (Below.refl _ _)⟩
    · by_cases h2 : (c.toNat : Int) = 43
      · have HX : Hid (sgR (c :: r) = r ∧ gsgB (c :: r) = false) := ⟨if_pos (Or.inr h2), decide_eq_false h1⟩
        rw [HX.out.1, HX.out.2]
        go_enter Tryz.func85, Tryz.ntmps85
        go_wp2
        go_quiet (fail)
        go_wp2
        go_ret2
        exact ⟨rfl, gbelow_drewN (Below.refl _ _)⟩
      · have HX : Hid (sgR (c :: r) = c :: r ∧ gsgB (c :: r) = false) := ⟨if_neg (by omega), decide_eq_false h1⟩
        rw [HX.out.1, HX.out.2]
        have g1 : ((c.toNat : Int) == 45) = false := beq_eq_false_iff_ne.2 h1
        have g2 : ((c.toNat : Int) == 43) = false := beq_eq_false_iff_ne.2 h2
        go_enter Tryz.func85, Tryz.ntmps85
        go_wp2
        go_ret2
        exact ⟨rfl, Below.refl _ _⟩
/-- without noughts ahead -/
def bar (l : List UInt8) : List UInt8 := l.dropWhile (· == 48)
theorem bar_cons (c : UInt8) (r : List UInt8) : bar (c :: r) = if (c.toNat : Int) = 48 then bar r else c :: r := by
  unfold bar
  rw [List.dropWhile_cons]
  by_cases h : c = 48
  · subst h; rfl
  · have : ¬ (c.toNat : Int) = 48 := fun e => h (UInt8.toNat_inj.1 (by simpa using (show c.toNat = 48 by omega)))
    rw [if_neg this, if_neg (by simpa using h)]
/-- are all digits? -/
def isd (l : List UInt8) : Bool := l.all dg && !l.isEmpty
theorem all_dg (l : List UInt8) : l.all dg = true ↔ ∀ i, i < l.length → 48 ≤ by_ l i ∧ by_ l i ≤ 57 := by
  rw [List.all_eq_true]
  constructor
  · intro h i hi
    have := h _ (List.getElem_mem hi)
    unfold dg at this; simp at this
    unfold by_; rw [dif_pos hi]; omega
  · intro h c hc
    obtain ⟨i, hi, rfl⟩ := List.getElem_of_mem hc
    have := h i hi
    unfold by_ at this; rw [dif_pos hi] at this
    unfold dg; simp; omega
end Go.Proofs.YtplocajjfoiklaaGreatDoor

namespace Go.Proofs.YtplocajjfoiklaaGreatDoor
open Go.RowKit

/-- the number of digits -/
def nv (l : List UInt8) : Int := l.foldl (fun v c => 10 * v + ((c.toNat : Int) - 48)) 0
theorem nv_fold (l : List UInt8) : ∀ v : Int, l.foldl (fun v c => 10 * v + ((c.toNat : Int) - 48)) v = v * 10 ^ l.length + nv l := by
  induction l with
  | nil => intro v; simp [nv]
  | cons c r ih =>
    intro v
    unfold nv
    rw [List.foldl_cons, List.foldl_cons, ih, ih (10 * 0 + _), List.length_cons, Int.pow_succ]
    grind
theorem nv_app (a b : List UInt8) : nv (a ++ b) = nv a * 10 ^ b.length + nv b := by
  unfold nv
  rw [List.foldl_append, nv_fold b]
  rfl
theorem gnv_one (c : UInt8) : nv [c] = (c.toNat : Int) - 48 := by simp [nv]
theorem take_snoc {l : List UInt8} {k : Nat} (h : k < l.length) : l.take (k + 1) = l.take k ++ [l[k]] := List.take_succ_eq_append_getElem h
theorem nv_take {l : List UInt8} {k : Nat} (h : k < l.length) : nv (l.take (k + 1)) = 10 * nv (l.take k) + (by_ l k - 48) := by
  rw [take_snoc h, nv_app, gnv_one]
  unfold by_; rw [dif_pos h]
  simp; omega
theorem nv_nn {l : List UInt8} (h : l.all dg = true) : 0 ≤ nv l ∧ nv l < 10 ^ l.length := by
  have key : ∀ k, k ≤ l.length → 0 ≤ nv (l.take k) ∧ nv (l.take k) < 10 ^ k := by
    intro k
    induction k with
    | zero => intro _; simp [nv]
    | succ k ih =>
      intro hk
      have h1 := ih (by omega)
      have h2 := (all_dg l).1 h k (by omega)
      rw [nv_take (by omega), Int.pow_succ]
      omega
  have := key l.length (Nat.le_refl _)
  rwa [List.take_length] at this
theorem nv_take_nn {l : List UInt8} (h : l.all dg = true) (k : Nat) : 0 ≤ nv (l.take k) :=
  (nv_nn (l := l.take k) (List.all_eq_true.2 fun c hc => List.all_eq_true.1 h c (List.mem_of_mem_take hc))).1
/-- the number of digits, or two thousand millions -/
def vc (l : List UInt8) : Int := min (nv l) 2000000000
set_option maxHeartbeats 1000000 in
theorem value_any (l : List UInt8) (w : World) (hs : l.length < 4294967296) (hd : l.all dg = true) :
    Calls Tryz.prog 187 #[.string (B l)] w fun e w' => e = .returned (.int .i64 (vc l)) ∧ Below w.heap.size w w' := by
  have hsz := B_size l
  have HD : Hid (l.all dg = true) := hd
  have HA : Hid (∀ i, i < l.length → 48 ≤ by_ l i ∧ by_ l i ≤ 57) := (all_dg l).1 hd
  clear hd
  go_enter Tryz.func187, Tryz.ntmps187
  go_wp2
  go_loop [3, 4, 7] (fun v u4 i => ∃ (k : Nat) (x : Int), k ≤ l.length ∧ i = .int .i64 k ∧ v = .int .i64 x ∧ 0 ≤ x ∧ x ≤ 2000000000 ∧ Hid (x = vc (l.take k))) (fun _ _ i => l.length - (intOf i).toNat)
  case atStart => exact ⟨0, 0, Nat.zero_le _, rfl, rfl, by decide, by decide, rfl⟩
  case round =>
    obtain ⟨k, x, hk, rfl, rfl, hx0, hx1, hx⟩ := hrel
    by_cases hlt : k < l.length
    · have hki : (k : Int) < (B l).size := by omega
      have hki2 : (k : Int) < l.length := by omega
      have hsb := by_lt (l := l) (i := k) (by omega)
      have hbd := HA.out k hlt
      have HX : Hid (min (10 * x + (by_ l k - 48)) 2000000000 = vc (l.take (k + 1))) := by
        show _ = _
        have h0 := nv_take_nn HD.out k
        rw [hx.out]; unfold vc; rw [nv_take hlt]
        omega
      go_wp2
      go_round
      case rel => exact ⟨k + 1, min (10 * x + (by_ l k - 48)) 2000000000, by omega, by go_num, by go_num, by omega, by omega, HX.out⟩
      case measure => simp [intOf]; omega
    · obtain rfl : k = l.length := by omega
      rw [List.take_length] at hx
      go_wp2
      go_ret
      exact ⟨by rw [← hx.out]; rfl, Below.refl _ _⟩
end Go.Proofs.YtplocajjfoiklaaGreatDoor

namespace Go.Proofs.YtplocajjfoiklaaGreatDoor
open Go.RowKit

theorem all_dgs (l : List UInt8) : (dgs l).all dg = true := List.all_takeWhile
theorem rst_nil {l : List UInt8} (h : rst l = []) : dgs l = l := by
  have := dgs_rst l; rw [h, List.append_nil] at this; exact this
theorem rst_of_all {l : List UInt8} (h : l.all dg = true) : rst l = [] ∧ dgs l = l := by
  have : dgs l = l := by
    induction l with
    | nil => rfl
    | cons c r ih =>
      rw [List.all_cons, Bool.and_eq_true] at h
      unfold dgs at ih ⊢
      rw [List.takeWhile_cons, if_pos h.1, ih h.2]
  refine ⟨?_, this⟩
  have e := dgs_rst l
  rw [this] at e
  simpa using e
theorem isd_iff (l : List UInt8) : isd l = true ↔ dgs l ≠ [] ∧ rst l = [] := by
  unfold isd
  simp only [Bool.and_eq_true, Bool.not_eq_true', List.isEmpty_eq_false_iff]
  constructor
  · rintro ⟨h1, h2⟩
    obtain ⟨a, b⟩ := rst_of_all h1
    exact ⟨by rw [b]; exact h2, a⟩
  · rintro ⟨h1, h2⟩
    have := rst_nil h2
    rw [this] at h1
    exact ⟨by rw [← this]; exact all_dgs l, h1⟩
theorem sgR_le (l : List UInt8) : (sgR l).length ≤ l.length := by
  cases l with
  | nil => exact Nat.le_refl _
  | cons c r =>
    show (if _ then r else c :: r).length ≤ _
    split <;> simp
theorem rst_le (l : List UInt8) : (rst l).length ≤ l.length := by
  have := congrArg List.length (dgs_rst l)
  rw [List.length_append] at this; omega
/-- is it an exponent's text, and which -/
def exB : List UInt8 → Bool
  | [] => true
  | c :: r => decide ((c.toNat : Int) = 101 ∨ (c.toNat : Int) = 69) && isd (sgR r)
def exS (r : List UInt8) : Int := if gsgB r then - vc (sgR r) else vc (sgR r)
def exI : List UInt8 → Int
  | [] => 0
  | c :: r => if exB (c :: r) then exS r else 0
theorem vc_bd {l : List UInt8} (h : l.all dg = true) : 0 ≤ vc l ∧ vc l ≤ 2000000000 := by
  have := (nv_nn h).1
  unfold vc; omega
set_option maxHeartbeats 1000000 in
theorem exponent_e (c : UInt8) (r : List UInt8) (w : World) (hs : r.length < 4294967290) (hc : (c.toNat : Int) = 101 ∨ (c.toNat : Int) = 69) :
    Calls Tryz.prog 140 #[.string (B (c :: r))] w fun e w' => e = .returned (.tuple #[.int .i64 (if isd (sgR r) then exS r else 0), .bool (isd (sgR r))]) ∧ Below w.heap.size w w' := by
  have htl := B_toList
  have hsz := B_size (c :: r)
  have hln : (c :: r).length = r.length + 1 := rfl
  have hbt := B_tail c r
  have hsb := by_lt (l := c :: r) (i := 0) (by rw [hsz, hln]; omega)
  rw [by_zero] at hsb
  rw [hsz, hln] at hbt
  have c16 := fun w => lsign_any r w (by omega)
  have hsl := sgR_le r
  have c27 := fun w => ldig_any (sgR r) w (by omega)
  have hdl := dgs_le (sgR r)
  have g1 : ((c.toNat : Int) != 101 && (c.toNat : Int) != 69) = false := by
    rcases hc with h | h <;> rw [h] <;> rfl
  have g0 := c.toNat_lt
  by_cases hi : isd (sgR r) = true
  · have hi2 := (isd_iff _).1 hi
    have c40 := fun w => value_any (dgs (sgR r)) w (by omega) (all_dgs _)
    have hvb := vc_bd (all_dgs (sgR r))
    have HE : Hid (exS r = if gsgB r then - vc (dgs (sgR r)) else vc (dgs (sgR r))) := by show _ = _; unfold exS; rw [rst_nil hi2.2]
    rw [if_pos hi, hi]
    rw [hi2.2] at c27
    have HN := hi2.1
    clear hi hi2
    generalize dgs (sgR r) = D at *
    cases D with
    | nil => exact absurd rfl HN
    | cons d ds =>
      clear HN
      generalize sgR r = X at *
      generalize exS r = E at *
      have hb : ∀ z : Bool, gsgB r = z → Calls Tryz.prog 140 #[.string (B (c :: r))] w fun e w' => e = .returned (.tuple #[.int .i64 E, .bool true]) ∧ Below w.heap.size w w' := by
        intro z hz
        rw [hz] at c16 HE
        clear hz
        cases z
        all_goals
          simp only [Bool.false_eq_true, if_true, if_false] at HE
          rcases hc with h | h
          all_goals
            rw [HE.out]; clear HE
            go_enter Tryz.func140, Tryz.ntmps140
            go_wp2_with (first
              | (go_at_call 85; refine (c16 _).mono ?_; rintro x w1 ⟨rfl, hb1⟩)
              | (go_at_call 139; refine (c27 _).mono ?_; rintro x w2 ⟨rfl, hb2⟩)
              | (go_at_call 187; refine (c40 _).mono ?_; rintro x w3 ⟨rfl, hb3⟩))
            go_ret2
            exact ⟨rfl, gbnext (gbnext hb1 hb2) hb3⟩
      exact hb _ rfl
  · have hi0 : isd (sgR r) = false := by simpa using hi
    rw [if_neg hi, hi0]
    have HN : ¬ (dgs (sgR r) ≠ [] ∧ rst (sgR r) = []) := fun h => hi ((isd_iff _).2 h)
    clear hi hi0
    generalize dgs (sgR r) = D at *
    generalize rst (sgR r) = R at *
    generalize sgR r = X at *
    have hb : ∀ (k : c.toNat = 101 ∨ c.toNat = 69), Calls Tryz.prog 140 #[.string (B (c :: r))] w fun e w' => e = .returned (.tuple #[.int .i64 0, .bool false]) ∧ Below w.heap.size w w' := by
      intro _
      cases D with
      | nil =>
        clear HN
        rcases hc with h | h
        all_goals
          go_enter Tryz.func140, Tryz.ntmps140
          go_wp2_with (first
            | (go_at_call 85; refine (c16 _).mono ?_; rintro x w1 ⟨rfl, hb1⟩)
            | (go_at_call 139; refine (c27 _).mono ?_; rintro x w2 ⟨rfl, hb2⟩))
          go_ret2
          exact ⟨rfl, gbnext hb1 hb2⟩
      | cons d ds =>
        cases R with
        | nil => exact absurd ⟨by simp, rfl⟩ HN
        | cons q qs =>
          clear HN
          rcases hc with h | h
          all_goals
            go_enter Tryz.func140, Tryz.ntmps140
            go_wp2_with (first
              | (go_at_call 85; refine (c16 _).mono ?_; rintro x w1 ⟨rfl, hb1⟩)
              | (go_at_call 139; refine (c27 _).mono ?_; rintro x w2 ⟨rfl, hb2⟩))
            go_ret2
            exact ⟨rfl, gbnext hb1 hb2⟩
    exact hb (by omega)
set_option maxHeartbeats 1000000 in
theorem exponent_any (l : List UInt8) (w : World) (hs : l.length < 4294967290) :
    Calls Tryz.prog 140 #[.string (B l)] w fun e w' => e = .returned (.tuple #[.int .i64 (exI l), .bool (exB l)]) ∧ Below w.heap.size w w' := by
  have htl := B_toList
  cases l with
  | nil =>
    unfold exI exB
    go_enter Tryz.func140, Tryz.ntmps140
    go_wp2
    go_ret2
    exact ⟨rfl, Below.refl _ _⟩
  | cons c r =>
    by_cases hc : (c.toNat : Int) = 101 ∨ (c.toNat : Int) = 69
    · have := exponent_e c r w (by rw [List.length_cons] at hs; omega) hc
      have e1 : exB (c :: r) = isd (sgR r) := by
        show (decide _ && _) = _
        rw [decide_eq_true hc]; rfl
      rw [show exI (c :: r) = if exB (c :: r) then exS r else 0 from rfl, e1]; exact this
    · have e1 : exB (c :: r) = false := by
        show (decide _ && _) = _
        rw [decide_eq_false hc]; rfl
      have e2 : exI (c :: r) = 0 := by rw [show exI (c :: r) = if exB (c :: r) then exS r else 0 from rfl, e1]; rfl
      rw [e1, e2]
      have hsz := B_size (c :: r)
      have hln : (c :: r).length = r.length + 1 := rfl
      have hsb := by_lt (l := c :: r) (i := 0) (by rw [hsz, hln]; omega)
      rw [by_zero] at hsb
      have h1 : ¬ (c.toNat : Int) = 101 := fun h => hc (Or.inl h)
      have h2 : ¬ (c.toNat : Int) = 69 := fun h => hc (Or.inr h)
      have g1 : ((c.toNat : Int) != 101) = true := by simpa using h1
      have g2 : ((c.toNat : Int) != 69) = true := by simpa using h2
      clear hc
      go_enter Tryz.func140, Tryz.ntmps140
      go_wp2
      go_ret2
      exact ⟨rfl, Below.refl _ _⟩
/-! the document's -/
theorem nv_bar (l : List UInt8) : nv (bar l) = nv l := by
  induction l with
  | nil => rfl
  | cons c r ih =>
    rw [bar_cons]
    split
    · rename_i h
      rw [ih, show c :: r = [c] ++ r from rfl, nv_app, gnv_one, h]; simp
    · rfl
theorem bar_all {l : List UInt8} (h : l.all dg = true) : (bar l).all dg = true := by
  induction l with
  | nil => rfl
  | cons c r ih =>
    rw [bar_cons]
    rw [List.all_cons, Bool.and_eq_true] at h
    split
    · exact ih h.2
    · rw [List.all_cons, h.1, h.2]; rfl
theorem bar_le (l : List UInt8) : (bar l).length ≤ l.length := by
  induction l with
  | nil => exact Nat.le_refl _
  | cons c r ih =>
    rw [bar_cons]
    split
    · rw [List.length_cons]; omega
    · exact Nat.le_refl _
theorem bar_head {l : List UInt8} {c : UInt8} {r : List UInt8} (h : bar l = c :: r) : (c.toNat : Int) ≠ 48 := by
  induction l with
  | nil => cases h
  | cons d s ih =>
    rw [bar_cons] at h
    split at h
    · exact ih h
    · rename_i hd; cases h; exact hd
end Go.Proofs.YtplocajjfoiklaaGreatDoor

namespace Go.Proofs.YtplocajjfoiklaaGreatDoor
open Go.RowKit

theorem B_drop (l : List UInt8) (k : Nat) : (B l).extract k (B l).size = B (l.drop k) := by
  rw [B_ext, B_size, List.take_length]
theorem isd_all {l : List UInt8} (h : isd l = true) : l.all dg = true := by
  unfold isd at h; simp only [Bool.and_eq_true] at h; exact h.1
end Go.Proofs.YtplocajjfoiklaaGreatDoor
