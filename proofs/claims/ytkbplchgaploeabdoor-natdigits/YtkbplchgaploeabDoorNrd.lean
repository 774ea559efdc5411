/-
  What nat.Read does: a contract.
-/
import Derived.Test.YtkbplchgaploeabDoorApn
set_option linter.unusedVariables false
set_option linter.unusedSimpArgs false
namespace Go.Proofs.YtkbplchgaploeabDoor
open Go.RowKit

theorem digB_of {s : ByteArray} : ∀ (n : Nat), (∀ k, k < n → 48 ≤ sb s k ∧ sb s k ≤ 57) → digB s n = true
  | 0, _ => rfl
  | n + 1, h => by
    unfold digB
    rw [digB_of n fun k hk => h k (by omega)]
    simp; exact h n (by omega)
theorem numV_app {s u : ByteArray} (p : Nat) : ∀ L, (∀ i, i < L → sb u i = sb s (p + i)) → numV s (p + L) = numV s p * 10 ^ L + numV u L
  | 0, _ => by simp [numV]
  | L + 1, h => by
    have e := numV_app p L fun i hi => h i (by omega)
    rw [← Nat.add_assoc]
    simp only [numV]
    rw [e, h L (by omega), Int.pow_succ]
    grind
theorem ext_size {u : ByteArray} {a b : Nat} (hb : b ≤ u.size) : (u.extract a b).size = b - a := by
  rw [ByteArray.size_extract]; omega
theorem ext_sb {u : ByteArray} {a b i : Nat} (hb : b ≤ u.size) (hi : a + i < b) : sb (u.extract a b) i = sb u (a + i) := by
  unfold sb
  rw [dif_pos (show i < (u.extract a b).size by rw [ext_size hb]; omega), dif_pos (show a + i < u.size by omega)]
  simp [ByteArray.getElem_extract]

def readE (s : ByteArray) : Int := if isDigB s = true then (if 12000 < s.size then 4 else 0) else 2
def readV (s : ByteArray) : Int := if isDigB s = true then (if 12000 < s.size then 0 else numV s s.size) else 0

set_option maxHeartbeats 400000 in
theorem nread_form (s : ByteArray) (w : World) (hs : s.size < 4294967296) (hd : isDigB s = false) :
    Calls Tryd.prog 8 #[.string s] w fun e w' => e = .returned (.tuple #[.slice none 0 0, .int .i64 2]) ∧ w = w' := by
  have ha := allDigits_any s w hs
  rw [hd] at ha
  go_enter Tryd.func8, Tryd.ntmps8
  go_wp2_with (go_at_call 20; refine ha.mono ?_; rintro e w' ⟨rfl, rfl⟩)
  go_ret2
  exact ⟨rfl, rfl⟩
set_option maxHeartbeats 400000 in
theorem nread_long (s : ByteArray) (w : World) (hs : s.size < 4294967296) (hd : isDigB s = true) (hl : 12000 < s.size) :
    Calls Tryd.prog 8 #[.string s] w fun e w' => e = .returned (.tuple #[.slice none 0 0, .int .i64 4]) ∧ w = w' := by
  have ha := allDigits_any s w hs
  rw [hd] at ha
  have hl' : (12000 : Int) < s.size := by omega
  go_enter Tryd.func8, Tryd.ntmps8
  go_wp2_with (go_at_call 20; refine ha.mono ?_; rintro e w' ⟨rfl, rfl⟩)
  go_ret2
  exact ⟨rfl, rfl⟩
set_option maxHeartbeats 1000000 in
theorem nread_ok (s : ByteArray) (w : World) (hd : isDigB s = true) (hl : s.size ≤ 12000) :
    Calls Tryd.prog 8 #[.string s] w fun e w' => ∃ o k cap z, e = .returned (.tuple #[.slice o k cap, .int .i64 0]) ∧ k ≤ 12000 ∧ Num w' o k cap z ∧ val z k = numV s s.size ∧ sizeL z k = k ∧ Below w.heap.size w w' := by
  have ha := allDigits_any s w (by omega)
  rw [hd] at ha
  have hl' : (s.size : Int) ≤ 12000 := by omega
  have hdig : ∀ k, k < s.size → 48 ≤ sb s k ∧ sb s k ≤ 57 := by
    unfold isDigB at hd; simp at hd; exact digB_at s.size hd.1
  have HDG : Hid (∀ k, k < s.size → 48 ≤ sb s k ∧ sb s k ≤ 57) := hdig
  clear hd hdig
  go_enter Tryd.func8, Tryd.ntmps8
  go_wp2_with (go_at_call 20; refine ha.mono ?_; rintro e w' ⟨rfl, rfl⟩)
  clear ha
  go_loopw [0, 4, 5] (fun t0 t4 u5 wr => ∃ (p n c : Nat) (u : ByteArray) (ao : Option Addr) (z : Nat → Int), p ≤ s.size ∧ t0 = .string u ∧ t4 = .slice ao n c ∧ n ≤ p ∧ u.size = s.size - p ∧ (∀ i, i < u.size → sb u i = sb s (p + i)) ∧ Row w.heap.size ao n c z wr ∧ val z n = numV s p ∧ Below w.heap.size w wr) (fun t0 _ _ _ => match t0 with | .string u => u.size | _ => 0)
  case atStart => exact ⟨0, 0, 0, s, none, fun _ => 0, Nat.zero_le _, rfl, rfl, Nat.le_refl _, rfl, fun i _ => by rw [Nat.zero_add], ⟨World.ownsRow_nil _ _ _ _, fun _ => (by decide : (0 : Int) ≤ 0 ∧ (0 : Int) ≤ 18446744073709551615), fun _ _ => rfl, rfl, Nat.le_refl _⟩, rfl, Below.refl _ _⟩
  case round =>
    obtain ⟨p, n, c, u, ao, z, hp, rfl, rfl, hnp, hus, hub, hR, hv, hB⟩ := hrel
    by_cases h0 : u.size = 0
    · have e1 : p = s.size := by omega
      have hu0 : (u.size : Int) = 0 := by omega
      have HN : Hid (Num wr ao n c z) := num_of_owns' hR.2.1 hR.2.2.1 hR.1
      have HV : Hid (val z n = numV s s.size) := by show _ = _; rw [hv, e1]
      have HT : Hid (sizeL z n = n) := hR.2.2.2.1
      have HB : Hid (Below w.heap.size w wr) := hB
      clear hR hv hB hub
      go_wp2
      go_ret2
      exact ⟨ao, n, c, z, rfl, by omega, HN.out, HV.out, HT.out, HB.out⟩
    · have hu0 : (0 : Int) < u.size := by omega
      obtain ⟨L, hL⟩ : ∃ L : Nat, (if u.size ≤ 19 then u.size else 19) = L := ⟨_, rfl⟩
      have hL1 : 0 < L ∧ L ≤ 19 ∧ L ≤ u.size := by split at hL <;> omega
      have hmin : min (u.size : Int) 19 = L := by split at hL <;> omega
      have hLu : (L : Int) ≤ u.size := by omega
      have es : (u.extract 0 L).size = L := by rw [ext_size hL1.2.2]; omega
      have es2 : (u.extract L u.size).size = u.size - L := ext_size (Nat.le_refl _)
      have eb : ∀ i, i < L → sb (u.extract 0 L) i = sb s (p + i) := fun i hi => by rw [ext_sb hL1.2.2 (by omega), Nat.zero_add, hub i (by omega)]
      have eb2 : Hid (∀ i, i < (u.extract L u.size).size → sb (u.extract L u.size) i = sb s (p + L + i)) := fun i hi => by
        rw [es2] at hi
        rw [ext_sb (Nat.le_refl _) (by omega), hub (L + i) (by omega), Nat.add_assoc]
      have hap := appendPart_any w.heap.size ao n c z (u.extract 0 L) wr (by omega) (by omega) (by rw [es]; exact digB_of L fun k hk => by rw [eb k hk]; exact HDG.out (p + k) (by omega)) hR
      rw [es] at hap
      have HV : Hid (val z n * 10 ^ L + numV (u.extract 0 L) L = numV s (p + L)) := by show _ = _; rw [numV_app p L eb, hv]
      have HB : Hid (Below w.heap.size w wr) := hB
      have HE2 : Hid ((u.extract L u.size).size = s.size - (p + L)) := by show _ = _; rw [es2]; omega
      have HE3 : Hid ((u.extract L u.size).size < u.size) := by show _ < _; rw [es2]; omega
      have hpl : p + L ≤ s.size := by omega
      have hnk : n + 1 ≤ p + L := by omega
      clear hR hv hB hub es es2 eb hL hus
      go_wp2_with (go_at_call 21; refine hap.mono ?_; rintro e w1 ⟨o1, k1, p1, z1, rfl, hk1, hR1, hv1, hB1⟩; clear hap)
      go_roundw
      case rel => exact ⟨p + L, k1, p1, _, o1, z1, hpl, rfl, rfl, by omega, HE2.out, eb2.out, hR1, by rw [hv1, HV.out], HB.out.trans hB1⟩
      case measure => exact HE3.out
theorem nread_all (s : ByteArray) (w : World) (hs : s.size < 4294967296) :
    Calls Tryd.prog 8 #[.string s] w fun e w' => ∃ o k cap z, e = .returned (.tuple #[.slice o k cap, .int .i64 (readE s)]) ∧ k ≤ 12000 ∧ Num w' o k cap z ∧ val z k = readV s ∧ sizeL z k = k ∧ Below w.heap.size w w' := by
  by_cases hd : isDigB s = true
  · by_cases hl : 12000 < s.size
    · refine (nread_long s w hs hd hl).mono fun e w' hw => ⟨none, 0, 0, _, ?_, Nat.zero_le _, num_none w', ?_, rfl, hw.2 ▸ Below.refl _ _⟩
      · rw [hw.1]; unfold readE; rw [if_pos hd, if_pos hl]
      · unfold readV; rw [if_pos hd, if_pos hl]; rfl
    · refine (nread_ok s w hd (by omega)).mono fun e w' ⟨o, k, cap, z, e1, hk, hN, hv, ht, hB⟩ => ⟨o, k, cap, z, ?_, hk, hN, ?_, ht, hB⟩
      · rw [e1]; unfold readE; rw [if_pos hd, if_neg hl]
      · unfold readV; rw [if_pos hd, if_neg hl]; exact hv
  · refine (nread_form s w hs (by simpa using hd)).mono fun e w' hw => ⟨none, 0, 0, _, ?_, Nat.zero_le _, num_none w', ?_, rfl, hw.2 ▸ Below.refl _ _⟩
    · rw [hw.1]; unfold readE; rw [if_neg hd]
    · unfold readV; rw [if_neg hd]; rfl
end Go.Proofs.YtkbplchgaploeabDoor
