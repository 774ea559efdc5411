/-
  Texts that the proof leans on, joined: Xn, Sp9, Ss9, Sg8.
-/
import Derived.Test.YtoobncgmcnmgjaaGreatDoorL34
import Derived.Test.YtoobncgmcnmgjaaGreatDoorL36
import Derived.Test.YtoobncgmcnmgjaaGreatDoorL33
set_option linter.unusedVariables false
set_option linter.unusedSectionVars false
set_option linter.unusedSimpArgs false
set_option maxRecDepth 20000
namespace Go.Proofs.YtoobncgmcnmgjaaGreatDoor
open Go.RowKit

theorem decL_rev {V : Int} {L : Nat} (h0 : 0 < V) (h : V < 10 ^ L) : revL V (sizeL (dgt V) L) = decL V L := by
  unfold decL revL
  rw [if_neg]
  intro e
  have := lt_sizeL (Int.le_of_lt h0) L h
  rw [e] at this; simp at this; omega
theorem sb_nums {l : List Int} (hl : ∀ v ∈ l, 48 ≤ v ∧ v ≤ 57) {i : Nat} (hi : i < l.length) : sb (strOfNums l) i = l[i] := by
  unfold sb
  rw [dif_pos (by rw [strOfNums_size]; exact hi)]
  have h := hl l[i] (List.getElem_mem hi)
  have e : (strOfNums l)[i]'(by rw [strOfNums_size]; exact hi) = UInt8.ofNat l[i].toNat := by
    show (strOfNums l).data[i]'_ = _
    simp [strOfNums]
  rw [e]
  simp
  omega
theorem numV_rev {V : Int} {K : Nat} {u : ByteArray} (hu : ∀ i, i < K → sb u i = 48 + dgt V (K - 1 - i)) (h0 : 0 ≤ V) (hV : V < 10 ^ K) : ∀ j, j ≤ K → numV u j = V / 10 ^ (K - j)
  | 0, _ => by rw [Nat.sub_zero, Int.ediv_eq_zero_of_lt h0 hV]; rfl
  | j + 1, h => by
    have ih := numV_rev hu h0 hV j (by omega)
    simp only [numV]
    rw [ih, hu j (by omega)]
    have e1 : K - j = (K - (j + 1)) + 1 := by omega
    have e2 : K - 1 - j = K - (j + 1) := by omega
    rw [e1, e2]
    unfold dgt
    rw [← div_div10]
    generalize V / 10 ^ (K - (j + 1)) = W
    omega
/-- the digits of a number -/
def dcD (V : Int) (L : Nat) : List UInt8 := (strOfNums (revL V (sizeL (dgt V) L))).data.toList
theorem dcD_facts {V : Int} {L : Nat} (h0 : 0 < V) (h : V < 10 ^ L) : gdD (dcD V L) ∧ (dV (dcD V L) : Int) = V ∧ (dcD V L).length ≤ L := by
  have hK := lt_sizeL (Int.le_of_lt h0) L h
  have hKp : 0 < sizeL (dgt V) L := by
    rcases Nat.eq_zero_or_pos (sizeL (dgt V) L) with e | e
    · rw [e] at hK; simp at hK; omega
    · exact e
  have hKL := sizeL_le (dgt V) L
  have htop := sizeL_top L hKp
  have hB : B (dcD V L) = strOfNums (revL V (sizeL (dgt V) L)) := B_of _
  have hd : ∀ v ∈ revL V (sizeL (dgt V) L), 48 ≤ v ∧ v ≤ 57 := by
    intro v hv
    simp [revL] at hv
    obtain ⟨i, _, rfl⟩ := hv
    have := dgt_bd V (sizeL (dgt V) L - 1 - i)
    omega
  have hrl : (revL V (sizeL (dgt V) L)).length = sizeL (dgt V) L := by simp [revL]
  have hsz : (dcD V L).length = sizeL (dgt V) L := by
    rw [← B_size, hB, strOfNums_size, hrl]
  have hby : ∀ i, i < sizeL (dgt V) L → by_ (dcD V L) i = 48 + dgt V (sizeL (dgt V) L - 1 - i) := fun i hi => by
    rw [← sb_by, hB, sb_nums hd (by rw [hrl]; exact hi)]; simp [revL]
  have hall : (dcD V L).all dg = true := (all_dg _).2 fun i hi => by
    rw [hsz] at hi
    rw [hby i hi]
    have := dgt_bd V (sizeL (dgt V) L - 1 - i)
    omega
  refine ⟨Or.inr ⟨?_, ?_⟩, ?_, by omega⟩
  · unfold isd
    rw [hall]
    have : dcD V L ≠ [] := fun e => by rw [e] at hsz; simp at hsz; omega
    simp [this]
  · rw [hby 0 hKp, Nat.sub_zero]
    intro e
    exact htop (by omega)
  · rw [(dV_lt hall).2, B_size, hsz]
    rw [numV_rev (K := sizeL (dgt V) L) (fun i hi => by rw [sb_by]; exact hby i hi) (Int.le_of_lt h0) hK _ (Nat.le_refl _)]
    simp
set_option maxHeartbeats 1000000 in
theorem rdec_zero (a : Option Addr) (n c : Nat) (x : Nat → Int) (w : World) (hn : n < 100000) (h : Num w a n c x) (hz : sizeL x n = 0) :
    Calls Tryz.prog 17 #[.slice a n c] w fun e w' => e = .returned (.string ⟨#[]⟩) ∧ Below w.heap.size w w' := by
  have ht := trim_any a n c x w (by omega) h
  rw [hz] at ht
  clear h
  go_enter Tryz.func17, Tryz.ntmps17
  go_wp2_with (go_at_call 49; refine ht.mono ?_; rintro e wA ⟨g0, cap0, rfl, hN0, hB0⟩; clear ht hN0)
  go_loopw [0, 3] (fun t0 t3 wr => t0 = .slice (some ⟨g0, 0, none⟩) 0 cap0 ∧ t3 = .slice none 0 0 ∧ Below w.heap.size w wr) (fun _ _ _ => 0)
  case atStart => exact ⟨rfl, rfl, hB0⟩
  case round =>
    obtain ⟨rfl, rfl, hB1⟩ := hrel
    go_wp2
    go_loopw [7] (fun t7 wr => t7 = .int .i64 0 ∧ Below w.heap.size w wr) (fun _ _ => 0)
    case atStart => exact ⟨rfl, hB1⟩
    case round =>
      obtain ⟨rfl, hB2⟩ := hrel
      go_wp2
      go_loopw [8, 50] (fun t8 t50 wr => t8 = .slice none 0 0 ∧ t50 = .int .i64 0 ∧ Below w.heap.size w wr) (fun _ _ _ => 0)
      case atStart => exact ⟨rfl, rfl, hB2⟩
      case round =>
        obtain ⟨rfl, rfl, hB3⟩ := hrel
        have hcv : (convert 80 9 (.slice none 0 0)).run Tryz.prog wr = .ok (.string ⟨#[]⟩) wr := by
          rw [run_convert_bytes_string wr 80 9 5 none 0 0 Tryz.underlying80 Tryz.underlying5 Tryz.underlying9]
          rfl
        go_wp2
        go_ret
        exact ⟨rfl, hB3⟩
theorem p660 {x : Nat → Int} {n : Nat} (hx : Words x) (hn : n ≤ 30) : val x n < 10 ^ 660 := by
  have h := val_bd hx n
  have h2 := p22 n
  have h3 : (10 : Int) ^ (22 * n) ≤ 10 ^ 660 := by
    obtain ⟨k, hk⟩ : ∃ k, 660 = 22 * n + k := ⟨660 - 22 * n, by omega⟩
    rw [hk, Int.pow_add]
    have h4 := p10_pos k
    have h5 := p10_pos (22 * n)
    have : (10 : Int) ^ (22 * n) * 1 ≤ 10 ^ (22 * n) * 10 ^ k := Int.mul_le_mul_of_nonneg_left (by omega) (by omega)
    omega
  omega
/-- the document's Decimal -/
theorem rdec8 {a : Option Addr} {n c : Nat} {x : Nat → Int} {w : World} (hn : n ≤ 30) (h : Num w a n c x) :
    ∃ D : List UInt8, gdD D ∧ (dV D : Int) = val x n ∧ D.length ≤ 660 ∧ ∀ W, Below w.heap.size w W → Calls Tryz.prog 17 #[.slice a n c] W fun e w' => e = .returned (.string (B D)) ∧ Below W.heap.size W w' := by
  have hx := h.2.2.1
  rcases Nat.eq_zero_or_pos (sizeL x n) with hz | hz
  · refine ⟨[], Or.inl rfl, ?_, by decide, fun W hW => rdec_zero a n c x W (by omega) (h.next hW) hz⟩
    have := val_bare (x := x) n
    rw [hz] at this
    rw [← this]; rfl
  · have hv0 : 0 < val x n := by
      rw [← val_bare n]
      exact val_pos hx _ hz (sizeL_sizeL x n)
    have h660 := p660 hx hn
    obtain ⟨d1, d2, d3⟩ := dcD_facts hv0 h660
    refine ⟨dcD (val x n) 660, d1, d2, d3, fun W hW => ?_⟩
    have hle := sizeL_le x n
    refine (rdec_any a n c x W (by omega) (h.next hW) (by omega) hz).mono fun e w' ⟨L, hL, he, hB⟩ => ⟨?_, hB⟩
    rw [he, decL_rev hv0 hL, decL_more (Int.le_of_lt hv0) hL h660, ← decL_rev hv0 h660]
    show _ = Ending.returned (.string (B (dcD (val x n) 660)))
    unfold dcD
    rw [B_of]
end Go.Proofs.YtoobncgmcnmgjaaGreatDoor

namespace Go.Proofs.YtoobncgmcnmgjaaGreatDoor
open Go.RowKit

theorem NT.head {K V : Nat} {v : Value} {w : World} (h : NT K V v w) (hV : V ≠ 0) : ∃ g k cap z0, v = .slice (some ⟨g, 0, none⟩) k cap ∧ 0 < k ∧ k ≤ K ∧ g < w.heap.size ∧ w.cell? ⟨g, 0, none⟩ = some (.int .u64 z0) ∧ 0 ≤ z0 ∧ z0 ≤ 18446744073709551615 ∧ z0 % 2 = ((V % 2 : Nat) : Int) := by
  have hz := h.zero
  obtain ⟨g, k, cap, z, rfl, hk, ⟨n1, n2, n3, n4, n5⟩, hv, hs⟩ := h
  obtain ⟨g', k', cap', e, _, hz'⟩ := hz
  cases e
  have hk0 : k ≠ 0 := fun e => hV (hz'.1 e)
  rcases n5 with ⟨n5, _⟩ | ⟨b, off, e, hb, hc⟩
  · cases n5
  · cases e
    have hc0 := hc 0 (by omega)
    have hw := n3 0
    have hp := val_odd (by omega : 0 < k) hv
    exact ⟨g, k, cap, z 0, rfl, by omega, hk, hb, hc0, hw.1, hw.2, by omega⟩
attribute [local irreducible] W4 Nz Nt NT NV
section
variable (n : Int) (Bp : Nat) (c : Int) (s g : Bool) (x : Int) (k : Nat) (w : World)
variable (c16 : ∀ W, Calls Tryz.prog 16 #[.int .i64 n, A4 Bp] W fun r w' => r = .returned (.tuple #[DV c s g x k, .int .i64 0]) ∧ Below W.heap.size W w')
include c16
variable (hc : c = 1)
include hc
end
end Go.Proofs.YtoobncgmcnmgjaaGreatDoor

namespace Go.Proofs.YtoobncgmcnmgjaaGreatDoor
open Go.RowKit

theorem dV_snoc {l : List UInt8} {c : UInt8} (hl : l.all dg = true) (hc : dg c = true) : dV (l ++ [c]) = 10 * dV l + (c.toNat - 48) := by
  have hall : (l ++ [c]).all dg = true := by rw [List.all_append, hl]; simp [hc]
  have h1 := (dV_lt hall).2
  have h2 := (dV_lt hl).2
  have hcd : 48 ≤ c.toNat ∧ c.toNat ≤ 57 := of_decide_eq_true hc
  have hA := numV_app (s := B (l ++ [c])) (u := B [c]) l.length 1 (fun i hi => by
    rw [sb_by, sb_by, by_app_at])
  have hC := numV_app (s := B (l ++ [c])) (u := B l) 0 l.length (fun i hi => by
    rw [sb_by, sb_by, Nat.zero_add]
    unfold by_
    have hi2 : i < (l ++ [c]).length := by rw [List.length_append]; omega
    rw [dif_pos hi, dif_pos hi2, List.getElem_append_left hi])
  have e0 : numV (B (l ++ [c])) 0 = 0 := rfl
  have e1 : numV (B [c]) 1 = (c.toNat : Int) - 48 := by
    have : numV (B [c]) 1 = numV (B [c]) 0 * 10 + (sb (B [c]) 0 - 48) := rfl
    rw [this, sb_by, by_zero]
    have : numV (B [c]) 0 = 0 := rfl
    omega
  rw [Nat.zero_add, e0, Int.zero_mul, Int.zero_add] at hC
  rw [B_size] at h1 h2
  rw [show (l ++ [c]).length = l.length + 1 by simp, hA, hC, e1, ← h2] at h1
  omega
theorem dg_uniq : ∀ (n : Nat) (l l' : List UInt8), l.length = n → l'.length = n → l.all dg = true → l'.all dg = true → dV l = dV l' → l = l'
  | 0, l, l', h, h', _, _, _ => by rw [List.length_eq_zero_iff.1 h, List.length_eq_zero_iff.1 h']
  | n + 1, l, l', h, h', hd, hd', hv => by
    rcases List.eq_nil_or_concat l with rfl | ⟨m, c, rfl⟩
    · cases h
    · rcases List.eq_nil_or_concat l' with rfl | ⟨m', c', rfl⟩
      · cases h'
      · rw [List.concat_eq_append] at *
        rw [List.concat_eq_append] at *
        rw [List.all_append] at hd hd'
        simp at hd hd'
        have hm : m.all dg = true := List.all_eq_true.2 hd.1
        have hm' : m'.all dg = true := List.all_eq_true.2 hd'.1
        rw [dV_snoc hm hd.2, dV_snoc hm' hd'.2] at hv
        have c1 : 48 ≤ c.toNat ∧ c.toNat ≤ 57 := of_decide_eq_true hd.2
        have c2 : 48 ≤ c'.toNat ∧ c'.toNat ≤ 57 := of_decide_eq_true hd'.2
        have e1 : dV m = dV m' := by omega
        have e2 : c = c' := UInt8.toNat_inj.1 (by omega)
        rw [dg_uniq n m m' (by simp at h; exact h) (by simp at h'; exact h') hm hm' e1, e2]
theorem gd_uniq {l l' : List UInt8} (h : gdD l) (h' : gdD l') (hv : dV l = dV l') : l = l' := by
  rcases h with rfl | ⟨h1, h2⟩
  · rcases h' with rfl | ⟨h1', h2'⟩
    · rfl
    · unfold isd at h1'
      simp at h1'
      have := dV_ge (List.all_eq_true.2 h1'.1) h2' h1'.2
      rw [← hv, dV_nil] at this
      have := Nat.pow_pos (n := l'.length - 1) (by decide : 0 < 10)
      omega
  · rcases h' with rfl | ⟨h1', h2'⟩
    · unfold isd at h1
      simp at h1
      have := dV_ge (List.all_eq_true.2 h1.1) h2 h1.2
      rw [hv, dV_nil] at this
      have := Nat.pow_pos (n := l.length - 1) (by decide : 0 < 10)
      omega
    · unfold isd at h1 h1'
      simp at h1 h1'
      have a1 := List.all_eq_true.2 h1.1
      have a2 := List.all_eq_true.2 h1'.1
      have g1 := dV_ge a1 h2 h1.2
      have g2 := dV_ge a2 h2' h1'.2
      have l1 := (dV_lt a1).1
      have l2 := (dV_lt a2).1
      have p1 : 0 < l.length := List.length_pos_iff.2 h1.2
      have p2 : 0 < l'.length := List.length_pos_iff.2 h1'.2
      have hlen : l.length = l'.length := by
        rcases Nat.lt_trichotomy l.length l'.length with h | h | h
        · have := Nat.pow_le_pow_right (n := 10) (by decide) (show l.length ≤ l'.length - 1 by omega)
          omega
        · exact h
        · have := Nat.pow_le_pow_right (n := 10) (by decide) (show l'.length ≤ l.length - 1 by omega)
          omega
      exact dg_uniq _ l l' hlen rfl a1 a2 hv
theorem dg_ofNat {d : Nat} (h : d ≤ 9) : dg (UInt8.ofNat (48 + d)) = true := by
  unfold dg
  refine decide_eq_true ?_
  have : (UInt8.ofNat (48 + d)).toNat = 48 + d := by simp; omega
  omega
theorem ofNat_dg {d : Nat} (h : d ≤ 9) : (UInt8.ofNat (48 + d)).toNat = 48 + d := by simp; omega
theorem ds_all {R Z : Nat} (hZ : 0 < Z) (hR : R < 10 * Z) : ∀ k, (dsN R Z k).all dg = true
  | 0 => rfl
  | k + 1 => by
    simp only [dsN]
    have h := dg_ofNat (dgK_le hZ hR k)
    rw [List.all_append, ds_all hZ hR k, Bool.true_and, List.all_cons, h]
    rfl
theorem ds_first {R Z : Nat} (hZ : 0 < Z) (hR : R < 10 * Z) (hZR : Z ≤ R) : ∀ k, ∃ r, dsN R Z (k + 1) = UInt8.ofNat (48 + dgK R Z 0) :: r
  | 0 => ⟨[], rfl⟩
  | k + 1 => by
    obtain ⟨r, hr⟩ := ds_first hZ hR hZR k
    exact ⟨r ++ [UInt8.ofNat (48 + dgK R Z (k + 1))], by rw [show dsN R Z (k + 1 + 1) = dsN R Z (k + 1) ++ [UInt8.ofNat (48 + dgK R Z (k + 1))] from rfl, hr]; rfl⟩
theorem gd_cons {c : UInt8} {r : List UInt8} (h : (c :: r).all dg = true) (hc : c.toNat ≠ 48) : gdD (c :: r) := by
  refine Or.inr ⟨?_, ?_⟩
  · unfold isd; rw [h]; rfl
  · rw [by_zero]; omega
theorem dg0_pos {R Z : Nat} (hZ : 0 < Z) (hZR : Z ≤ R) : 1 ≤ dgK R Z 0 := by
  show 1 ≤ R / Z
  exact (Nat.le_div_iff_mul_le hZ).2 (by omega)
theorem ds_one {R Z : Nat} (hZ : 0 < Z) (hR : R < 10 * Z) : dV (dsN R Z 1) = dgK R Z 0 := by
  have h := dgK_le hZ hR 0
  have := dV_snoc (l := []) (c := UInt8.ofNat (48 + dgK R Z 0)) (by decide) (dg_ofNat h)
  rw [show dsN R Z 1 = [] ++ [UInt8.ofNat (48 + dgK R Z 0)] from rfl, this, dV_nil, ofNat_dg h]; omega
end Go.Proofs.YtoobncgmcnmgjaaGreatDoor

namespace Go.Proofs.YtoobncgmcnmgjaaGreatDoor

theorem near_link {c : Bool} {N D P m Z k l : Nat} (hP : 0 < P) (hD : 0 < D) (h : 4 * N * P = m * Z * D) :
    (m * Z ≤ 4 * k * P → N ≤ k * D ∧ wiN c (4 * (k * D) - 4 * N) (l * D) = wiN c (4 * k * P - m * Z) (l * P)) ∧
    (4 * k * P ≤ m * Z → k * D ≤ N ∧ wiN c (4 * N - 4 * (k * D)) (2 * D) = wiN c (m * Z - 4 * k * P) (2 * P)) := by
  have e1 : 4 * k * P * D = 4 * (k * D) * P := by
    rw [Nat.mul_assoc 4 k P, Nat.mul_assoc 4 (k * P) D, Nat.mul_right_comm k P D, Nat.mul_assoc 4 (k * D) P]
  have e2 : ∀ l : Nat, l * D * P = l * P * D := fun l => Nat.mul_right_comm _ _ _
  refine ⟨fun hm => ⟨?_, ?_⟩, fun hm => ⟨?_, ?_⟩⟩
  · have h1 := Nat.mul_le_mul_right D hm
    rw [← h, e1] at h1
    have := Nat.le_of_mul_le_mul_right h1 hP
    omega
  · exact wiN_cross hD hP (by rw [Nat.sub_mul, Nat.sub_mul, e1, h]) (e2 l)
  · have h1 := Nat.mul_le_mul_right D hm
    rw [← h, e1] at h1
    have := Nat.le_of_mul_le_mul_right h1 hP
    omega
  · exact wiN_cross hD hP (by rw [Nat.sub_mul, Nat.sub_mul, e1, h]) (e2 2)
/-- a decimal number in the units of the number's last place -/
theorem ten_link {A m C j : Nat} {E e x : Int} (hm : m = A * 10 ^ C) (he : e = E - j + C) :
    4 * (A * 10 ^ e.toNat * 2 ^ (-x).toNat) * (10 ^ j * oE x E) = m * zE x E * (10 ^ (-e).toNat * 2 ^ x.toNat) := by
  unfold oE zE
  have h1 : 10 ^ e.toNat * 10 ^ j * 10 ^ (-E).toNat = 10 ^ C * 10 ^ E.toNat * 10 ^ (-e).toNat := by
    rw [← Nat.pow_add, ← Nat.pow_add, ← Nat.pow_add, ← Nat.pow_add]
    congr 1
    omega
  rw [hm]
  generalize 10 ^ e.toNat = a at *
  generalize 10 ^ j = b at *
  generalize 10 ^ (-E).toNat = c at *
  generalize 10 ^ C = d at *
  generalize 10 ^ E.toNat = g at *
  generalize 10 ^ (-e).toNat = i at *
  generalize 2 ^ (-x).toNat = u
  generalize 2 ^ x.toNat = v
  have l : 4 * (A * a * u) * (b * (v * c)) = 4 * A * u * v * (a * b * c) := by
    simp only [Nat.mul_assoc, Nat.mul_comm, Nat.mul_left_comm]
  have r : A * d * (4 * u * g) * (i * v) = 4 * A * u * v * (d * g * i) := by
    simp only [Nat.mul_assoc, Nat.mul_comm, Nat.mul_left_comm]
  rw [l, r, h1]
/-- what the digits tell and what is left -/
theorem ds_rest {R Z : Nat} (hZ : 0 < Z) (hR : R < 10 * Z) : ∀ k, dV (dsN R Z (k + 1)) * Z + rsN R Z k % Z = 10 ^ k * R
  | 0 => by
    rw [ds_one hZ hR, Nat.pow_zero, Nat.one_mul]
    show R / Z * Z + R % Z = R
    rw [Nat.mul_comm]; exact Nat.div_add_mod _ _
  | k + 1 => by
    have ih := ds_rest hZ hR k
    have h9 := dgK_le hZ hR (k + 1)
    rw [show dsN R Z (k + 1 + 1) = dsN R Z (k + 1) ++ [UInt8.ofNat (48 + dgK R Z (k + 1))] from rfl, dV_snoc (ds_all hZ hR (k + 1)) (dg_ofNat h9), ofNat_dg h9, Nat.add_sub_cancel_left, Nat.add_mul]
    have h1 := rsN_split R Z (k + 1)
    have h2 : rsN R Z (k + 1) = 10 * (rsN R Z k % Z) := rfl
    have h3 : dgK R Z (k + 1) * Z + rsN R Z (k + 1) % Z = 10 * (rsN R Z k % Z) := by rw [← h2, Nat.mul_comm]; exact h1
    rw [Nat.add_assoc, h3, Nat.mul_assoc, ← Nat.mul_add, ih, Nat.pow_succ, Nat.mul_comm _ 10, Nat.mul_assoc]
theorem one_list : dV [49] = 1 := by
  have h1 := dV_snoc (l := []) (c := 49) (by decide) (by decide)
  rw [show ([49] : List UInt8) = [] ++ [49] from rfl, h1, dV_nil]; decide
/-- the text's digits: what was cut off, or the next number -/
theorem shd_val {c : Bool} {R d u Z K : Nat} (hZ : 0 < Z) (hR : R < 10 * Z) (hm : ∀ k, k < K → stK c R d u Z k = false) :
    dV (dsN R Z (K + 1)) + (if upK c R d u Z K then 1 else 0) = dV (shT c R d u Z K) * 10 ^ shC c R d u Z K := by
  have h9 := dgK_le hZ hR K
  unfold shT shC
  by_cases h10 : laK c R d u Z K = 10
  · rw [if_pos h10, if_pos h10, one_list]
    have hK : K = 0 := by
      rcases Nat.eq_zero_or_pos K with h | h
      · exact h
      · have := la_lt (c := c) (d := d) (u := u) hZ h hR hm
        omega
    subst hK
    rw [ds_one hZ hR]
    unfold laK at h10
    split at h10
    · rename_i hu
      rw [if_pos hu]; omega
    · omega
  · rw [if_neg h10, if_neg h10, Nat.pow_zero, Nat.mul_one]
    have hla := laK_le (c := c) (d := d) (u := u) hZ hR K
    have hl9 : laK c R d u Z K ≤ 9 := by omega
    rw [dV_snoc (ds_all hZ hR K) (dg_ofNat hl9), ofNat_dg hl9]
    rw [show dsN R Z (K + 1) = dsN R Z K ++ [UInt8.ofNat (48 + dgK R Z K)] from rfl, dV_snoc (ds_all hZ hR K) (dg_ofNat h9), ofNat_dg h9]
    unfold laK
    split <;> omega
/-- the shortest digits are rounded to the number -/
theorem sd_back {n : Int} {s : Bool} {x : Int} {k : Nat} {E : Int} {K : Nat} (hbn : binN n) (h : isD (fN n) (leastN n) (mostN n) ⟨1, s, false, x, k⟩) (hk : k ≠ 0) (hS : Shd n x k E K) (e : Int) (he : e = E - K + (sdC n x k E K : Nat)) :
    rdV n 0 s (tN (dV (sdT n x k E K)) e) (tD e) e = pkV n ⟨1, s, false, x, k⟩ ∧ (rdF n 0 s (tN (dV (sdT n x k E K)) e) (tD e) e = 0 ∨ rdF n 0 s (tN (dV (sdT n x k E K)) e) (tD e) e = 8 ∨ rdF n 0 s (tN (dV (sdT n x k E K)) e) (tD e) e = 12) := by
  have hZ := zE_pos x E
  have hO := oE_pos x E
  have hR : 4 * k * oE x E < 10 * zE x E := by
    have := hS.t1
    rw [tn_next] at this
    omega
  have hv := shd_val (c := evK k) (d := lwN n x k * oE x E) (u := 2 * oE x E) hZ hR hS.mn
  have hr := ds_rest hZ hR K
  have hst := hS.st
  obtain ⟨t1, t2⟩ := ten_shift n 0 s (dV (sdT n x k E K)) e
  rw [← t1, ← t2]
  have hD0 : 10 ^ (-e).toNat ≠ 0 := Nat.pos_iff_ne_zero.1 (Nat.pow_pos (by decide))
  obtain ⟨u1, u2⟩ := rd_shift n 0 s (dV (sdT n x k E K) * 10 ^ e.toNat) hD0 (-x).toNat x.toNat x
  rw [show x + (((-x).toNat : Int) - (x.toNat : Int)) = 0 by omega] at u1 u2
  rw [← u1, ← u2]
  have hD : 0 < 10 ^ (-e).toNat * 2 ^ x.toNat := Nat.mul_pos (Nat.pow_pos (by decide)) (Nat.two_pow_pos _)
  have hP : 0 < 10 ^ K * oE x E := Nat.mul_pos (Nat.pow_pos (by decide)) hO
  have hl := ten_link (A := dV (sdT n x k E K)) (C := sdC n x k E K) (j := K) (E := E) (e := e) (x := x) rfl he
  have hv' : dV (sdT n x k E K) * 10 ^ sdC n x k E K = dV (dsN (4 * k * oE x E) (zE x E) (K + 1)) + (if upK (evK k) (4 * k * oE x E) (lwN n x k * oE x E) (2 * oE x E) (zE x E) K then 1 else 0) := hv.symm
  rw [hv'] at hl
  generalize dV (sdT n x k E K) * 10 ^ e.toNat * 2 ^ (-x).toNat = N at *
  generalize 10 ^ (-e).toNat * 2 ^ x.toNat = D at *
  have eR : 10 ^ K * (4 * k * oE x E) = 4 * k * (10 ^ K * oE x E) := Nat.mul_left_comm _ _ _
  have eO : ∀ l, 10 ^ K * (l * oE x E) = l * (10 ^ K * oE x E) := fun l => Nat.mul_left_comm _ _ _
  rw [eR] at hr
  have hlt : rsN (4 * k * oE x E) (zE x E) K % zE x E < zE x E := Nat.mod_lt _ hZ
  refine rd_near hbn h hk (by omega) ?_
  cases hu : upK (evK k) (4 * k * oE x E) (lwN n x k * oE x E) (2 * oE x E) (zE x E) K
  · have hun := nup_un hst hu
    unfold unK at hun
    rw [eO] at hun
    rw [hu, if_neg (by decide), Nat.add_zero] at hl
    have key := (near_link (c := evK k) (k := k) (l := lwN n x k) hP hD hl).1 (by omega)
    refine Or.inr ⟨key.1, ?_⟩
    rw [key.2, ← hr, Nat.add_sub_cancel_left]
    exact hun
  · have hov := up_ov hu
    unfold ovK at hov
    rw [eO] at hov
    rw [hu, if_pos rfl] at hl
    have hs : (dV (dsN (4 * k * oE x E) (zE x E) (K + 1)) + 1) * zE x E = dV (dsN (4 * k * oE x E) (zE x E) (K + 1)) * zE x E + zE x E := Nat.succ_mul _ _
    have key := (near_link (c := evK k) (k := k) (l := 2) hP hD hl).2 (by omega)
    refine Or.inl ⟨key.1, ?_⟩
    rw [key.2, hs, ← hr, Nat.add_sub_add_left]
    exact hov
end Go.Proofs.YtoobncgmcnmgjaaGreatDoor
