/-
  Texts that the proof leans on, joined: Xn.
-/
import Derived.Test.YtpfnfaekgaipjaaGreatDoorJ34
import Derived.Test.YtpfnfaekgaipjaaGreatDoorJ35
set_option linter.unusedVariables false
set_option linter.unusedSectionVars false
set_option linter.unusedSimpArgs false
set_option maxRecDepth 20000
namespace Go.Proofs.YtpfnfaekgaipjaaGreatDoor
open Go.RowKit

theorem decL_rev {V : Int} {L : Nat} (h0 : 0 < V) (h : V < 10 ^ L) : revL V (sizeL (dgt V) L) = decL V L := by
  unfold decL revL
  rw [if_neg]
  intro e
  have := lt_sizeL (Int.le_of_lt h0) L h
  rw [e] at this; simp at this; omega
theorem sb_nums {l : List Int} (hl : ∀ v ∈ l, 48 ≤ v ∧ v ≤ 57) {i : Nat} (hi : i < l.length) : sb (strOfNums l) i = l[i] := by
  unfold sb
  rw [dif_pos (by rw [strOfNums_size]; exact hi)]
  have h := hl l[i] (List.getElem_mem hi)
  have e : (strOfNums l)[i]'(by rw [strOfNums_size]; exact hi) = UInt8.ofNat l[i].toNat := by
    show (strOfNums l).data[i]'_ = _
    simp [strOfNums]
  rw [e]
  simp
  omega
theorem numV_rev {V : Int} {K : Nat} {u : ByteArray} (hu : ∀ i, i < K → sb u i = 48 + dgt V (K - 1 - i)) (h0 : 0 ≤ V) (hV : V < 10 ^ K) : ∀ j, j ≤ K → numV u j = V / 10 ^ (K - j)
  | 0, _ => by rw [Nat.sub_zero, Int.ediv_eq_zero_of_lt h0 hV]; rfl
  | j + 1, h => by
    have ih := numV_rev hu h0 hV j (by omega)
    simp only [numV]
    rw [ih, hu j (by omega)]
    have e1 : K - j = (K - (j + 1)) + 1 := by omega
    have e2 : K - 1 - j = K - (j + 1) := by omega
    rw [e1, e2]
    unfold dgt
    rw [← div_div10]
    generalize V / 10 ^ (K - (j + 1)) = W
    omega
/-- the digits of a number -/
def dcD (V : Int) (L : Nat) : List UInt8 := (strOfNums (revL V (sizeL (dgt V) L))).data.toList
theorem dcD_facts {V : Int} {L : Nat} (h0 : 0 < V) (h : V < 10 ^ L) : gdD (dcD V L) ∧ (dV (dcD V L) : Int) = V ∧ (dcD V L).length ≤ L := by
  have hK := lt_sizeL (Int.le_of_lt h0) L h
  have hKp : 0 < sizeL (dgt V) L := by
    rcases Nat.eq_zero_or_pos (sizeL (dgt V) L) with e | e
    · rw [e] at hK; simp at hK; omega
    · exact e
  have hKL := sizeL_le (dgt V) L
  have htop := sizeL_top L hKp
  have hB : B (dcD V L) = strOfNums (revL V (sizeL (dgt V) L)) := B_of _
  have hd : ∀ v ∈ revL V (sizeL (dgt V) L), 48 ≤ v ∧ v ≤ 57 := by
    intro v hv
    simp [revL] at hv
    obtain ⟨i, _, rfl⟩ := hv
    have := dgt_bd V (sizeL (dgt V) L - 1 - i)
    omega
  have hrl : (revL V (sizeL (dgt V) L)).length = sizeL (dgt V) L := by simp [revL]
  have hsz : (dcD V L).length = sizeL (dgt V) L := by
    rw [← B_size, hB, strOfNums_size, hrl]
  have hby : ∀ i, i < sizeL (dgt V) L → by_ (dcD V L) i = 48 + dgt V (sizeL (dgt V) L - 1 - i) := fun i hi => by
    rw [← sb_by, hB, sb_nums hd (by rw [hrl]; exact hi)]; simp [revL]
  have hall : (dcD V L).all dg = true := (all_dg _).2 fun i hi => by
    rw [hsz] at hi
    rw [hby i hi]
    have := dgt_bd V (sizeL (dgt V) L - 1 - i)
    omega
  refine ⟨Or.inr ⟨?_, ?_⟩, ?_, by omega⟩
  · unfold isd
    rw [hall]
    have : dcD V L ≠ [] := fun e => by rw [e] at hsz; simp at hsz; omega
    simp [this]
  · rw [hby 0 hKp, Nat.sub_zero]
    intro e
    exact htop (by omega)
  · rw [(dV_lt hall).2, B_size, hsz]
    rw [numV_rev (K := sizeL (dgt V) L) (fun i hi => by rw [sb_by]; exact hby i hi) (Int.le_of_lt h0) hK _ (Nat.le_refl _)]
    simp
set_option maxHeartbeats 1000000 in
theorem rdec_zero (a : Option Addr) (n c : Nat) (x : Nat → Int) (w : World) (hn : n < 100000) (h : Num w a n c x) (hz : sizeL x n = 0) :
    Calls Tryz.prog 12 #[.slice a n c] w fun e w' => e = .returned (.string ⟨#[]⟩) ∧ Below w.heap.size w w' := by
  have ht := trim_any a n c x w (by omega) h
  rw [hz] at ht
  clear h
  go_enter Tryz.func12, Tryz.ntmps12
  go_wp2_with (go_at_call 19; refine ht.mono ?_; rintro e wA ⟨g0, cap0, rfl, hN0, hB0⟩; clear ht hN0)
  go_loopw [0, 3] (fun t0 t3 wr => t0 = .slice (some ⟨g0, 0, none⟩) 0 cap0 ∧ t3 = .slice none 0 0 ∧ Below w.heap.size w wr) (fun _ _ _ => 0)
  case atStart => exact ⟨rfl, rfl, hB0⟩
  case round =>
    obtain ⟨rfl, rfl, hB1⟩ := hrel
    go_wp2
    go_loopw [7] (fun t7 wr => t7 = .int .i64 0 ∧ Below w.heap.size w wr) (fun _ _ => 0)
    case atStart => exact ⟨rfl, hB1⟩
    case round =>
      obtain ⟨rfl, hB2⟩ := hrel
      go_wp2
      go_loopw [8, 50] (fun t8 t50 wr => t8 = .slice none 0 0 ∧ t50 = .int .i64 0 ∧ Below w.heap.size w wr) (fun _ _ _ => 0)
      case atStart => exact ⟨rfl, rfl, hB2⟩
      case round =>
        obtain ⟨rfl, rfl, hB3⟩ := hrel
        have hcv : (convert 57 9 (.slice none 0 0)).run Tryz.prog wr = .ok (.string ⟨#[]⟩) wr := by
          rw [run_convert_bytes_string wr 57 9 5 none 0 0 Tryz.underlying57 Tryz.underlying5 Tryz.underlying9]
          rfl
        go_wp2
        go_ret
        exact ⟨rfl, hB3⟩
theorem p660 {x : Nat → Int} {n : Nat} (hx : Words x) (hn : n ≤ 30) : val x n < 10 ^ 660 := by
  have h := val_bd hx n
  have h2 := p22 n
  have h3 : (10 : Int) ^ (22 * n) ≤ 10 ^ 660 := by
    obtain ⟨k, hk⟩ : ∃ k, 660 = 22 * n + k := ⟨660 - 22 * n, by omega⟩
    rw [hk, Int.pow_add]
    have h4 := p10_pos k
    have h5 := p10_pos (22 * n)
    have : (10 : Int) ^ (22 * n) * 1 ≤ 10 ^ (22 * n) * 10 ^ k := Int.mul_le_mul_of_nonneg_left (by omega) (by omega)
    omega
  omega
/-- the document's Decimal -/
theorem rdec8 {a : Option Addr} {n c : Nat} {x : Nat → Int} {w : World} (hn : n ≤ 30) (h : Num w a n c x) :
    ∃ D : List UInt8, gdD D ∧ (dV D : Int) = val x n ∧ D.length ≤ 660 ∧ ∀ W, Below w.heap.size w W → Calls Tryz.prog 12 #[.slice a n c] W fun e w' => e = .returned (.string (B D)) ∧ Below W.heap.size W w' := by
  have hx := h.2.2.1
  rcases Nat.eq_zero_or_pos (sizeL x n) with hz | hz
  · refine ⟨[], Or.inl rfl, ?_, by decide, fun W hW => rdec_zero a n c x W (by omega) (h.next hW) hz⟩
    have := val_bare (x := x) n
    rw [hz] at this
    rw [← this]; rfl
  · have hv0 : 0 < val x n := by
      rw [← val_bare n]
      exact val_pos hx _ hz (sizeL_sizeL x n)
    have h660 := p660 hx hn
    obtain ⟨d1, d2, d3⟩ := dcD_facts hv0 h660
    refine ⟨dcD (val x n) 660, d1, d2, d3, fun W hW => ?_⟩
    have hle := sizeL_le x n
    refine (rdec_any a n c x W (by omega) (h.next hW) (by omega) hz).mono fun e w' ⟨L, hL, he, hB⟩ => ⟨?_, hB⟩
    rw [he, decL_rev hv0 hL, decL_more (Int.le_of_lt hv0) hL h660, ← decL_rev hv0 h660]
    show _ = Ending.returned (.string (B (dcD (val x n) 660)))
    unfold dcD
    rw [B_of]
end Go.Proofs.YtpfnfaekgaipjaaGreatDoor
