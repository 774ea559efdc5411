/-
  Texts that the proof leans on, joined: Rq, Dec, Rsm, Dig.
-/
import Derived.Test.YtecoajeejombbaaGreatDoorT5
import Derived.Deep.Cut
import Derived.Deep.CutRange
import Derived.Test.YtecoajeejombbaaGreatDoorJ8
import Derived.Laws.BytesArg
import Derived.Test.YtecoajeejombbaaGreatDoorJ22
import Derived.Test.YtecoajeejombbaaGreatDoorTE
set_option linter.unusedVariables false
set_option linter.unusedSectionVars false
set_option linter.unusedSimpArgs false
set_option maxRecDepth 20000
namespace Go.Proofs.YtecoajeejombbaaGreatDoor
open Go.RowKit

theorem rof_bin {n : Int} (hb : binN n) (w : World) : Calls Tryz.prog 25 #[.int .i64 n] w fun x w' => x = .returned (.tuple #[IV n (nameN n) (widthN n) (fN n) (eN n) (leastN n) (mostN n), .int .i64 0]) ∧ Below w.heap.size w w' := by
  obtain ⟨hok, hb2, hpr, hex, hwd, hpy⟩ := bin_fields hb
  obtain ⟨hnum, hden⟩ := bin_more hb
  have c25 := rofv_any n w
  rw [show infoE n = 0 from if_pos hok, hnum, hb2, hpr, hex, hden, hpy] at c25
  exact c25
end Go.Proofs.YtecoajeejombbaaGreatDoor

namespace Go.Proofs.YtecoajeejombbaaGreatDoor
open Go.RowKit

/-- the digit of place i -/
def dgt (V : Int) (i : Nat) : Int := V / 10 ^ i % 10
theorem dgt_bd (V : Int) (i : Nat) : 0 ≤ dgt V i ∧ dgt V i ≤ 9 := by
  unfold dgt
  have := Int.emod_nonneg (V / 10 ^ i) (show (10 : Int) ≠ 0 by decide)
  have := Int.emod_lt_of_pos (V / 10 ^ i) (show (0 : Int) < 10 by decide)
  omega
theorem dgt_small {V : Int} {L : Nat} (h0 : 0 ≤ V) (h : V < 10 ^ L) (i : Nat) (hi : L ≤ i) : dgt V i = 0 := by
  unfold dgt
  have : V / 10 ^ i = 0 := Int.ediv_eq_zero_of_lt h0 (Int.lt_of_lt_of_le h (by
    obtain ⟨k, rfl⟩ : ∃ k, i = L + k := ⟨i - L, by omega⟩
    rw [Int.pow_add]
    have h1 := p10_pos L
    have h2 := p10_pos k
    have : (10 : Int) ^ L * 1 ≤ 10 ^ L * 10 ^ k := Int.mul_le_mul_of_nonneg_left (by omega) (by omega)
    omega))
  rw [this]; rfl
theorem div_div10 (V : Int) (a b : Nat) : V / 10 ^ a / 10 ^ b = V / 10 ^ (a + b) := by
  rw [Int.pow_add, Int.ediv_ediv_of_nonneg (Int.le_of_lt (p10_pos a))]
theorem emod_mul_ediv' {W a b : Int} (ha : 0 < a) : W % (a * b) / a = W / a % b := by
  rw [Int.emod_def, Int.emod_def, ← Int.ediv_ediv_of_nonneg (Int.le_of_lt ha)]
  have : W - a * b * (W / a / b) = W + (-(b * (W / a / b))) * a := by grind
  rw [this, Int.add_mul_ediv_right _ _ (by omega)]; omega
/-- the digits, the highest first: those of the lowest L places -/
def decL (V : Int) (L : Nat) : List Int := if sizeL (dgt V) L = 0 then [48] else (List.range (sizeL (dgt V) L)).map fun i => 48 + dgt V (sizeL (dgt V) L - 1 - i)
theorem decL_more {V : Int} {L L' : Nat} (h0 : 0 ≤ V) (h : V < 10 ^ L) (h' : V < 10 ^ L') : decL V L = decL V L' := by
  have key : ∀ a b, a ≤ b → V < 10 ^ a → decL V b = decL V a := fun a b hab ha => by
    unfold decL
    rw [sizeL_more (fun i hi => dgt_small h0 ha i hi) b hab]
  rcases Nat.le_total L L' with e | e
  · exact (key L L' e h).symm
  · exact key L' L e h'

end Go.Proofs.YtecoajeejombbaaGreatDoor

namespace Go.Proofs.YtecoajeejombbaaGreatDoor
open Go.RowKit

set_option maxHeartbeats 400000 in
theorem ofb_any (c : Int) (w : World) (hc : 0 ≤ c ∧ c ≤ 18446744073709551615) :
    Calls Tryz.prog 86 #[.int .u64 c] w fun e w' => ∃ g k cap z, e = .returned (.slice (some ⟨g, 0, none⟩) k cap) ∧ k ≤ 1 ∧ Num w' (some ⟨g, 0, none⟩) k cap z ∧ val z k = c ∧ Below w.heap.size w w' := by
  have hN := num_one w c hc
  have hT := trim_any _ 1 1 (oneW c) _ (by omega) hN
  have hle := sizeL_le (oneW c) 1
  have HV : Hid (val (oneW c) (sizeL (oneW c) 1) = c) := by show _ = _; rw [val_bare, val_one _ 1 (by omega)]
  have HB := below1 w (.cells #[.int .u64 c] 23)
  generalize sizeL (oneW c) 1 = s at *
  clear hN
  go_enter Tryz.func86, Tryz.ntmps86
  go_wp2_with (go_at_call 41; refine hT.mono ?_; rintro e w1 ⟨g, cap, rfl, hN, hB⟩)
  go_ret
  exact ⟨g, s, cap, _, rfl, hle, hN, HV.out, HB.trans (hB.mono HB.size)⟩
/-- the quotient's words from k on -/
def quoKb (x : Nat → Int) (d : Int) (s k i : Nat) : Int := if k ≤ i ∧ i < s then quoW x d s i else 0
set_option maxHeartbeats 1000000 in
theorem smb_any (a : Option Addr) (s c : Nat) (x : Nat → Int) (d : Int) (w : World) (hs : s < 100000) (h : Num w a s c x) (hd : 0 < d ∧ d ≤ 18446744073709551615) :
    Calls Tryz.prog 44 #[.slice a s c, .int .u64 d] w fun e w' => ∃ g k cap z g' k' cap' z', e = .returned (.tuple #[.slice (some ⟨g, 0, none⟩) k cap, .slice (some ⟨g', 0, none⟩) k' cap']) ∧ k ≤ s ∧ k' ≤ 1 ∧ Num w' (some ⟨g, 0, none⟩) k cap z ∧ Num w' (some ⟨g', 0, none⟩) k' cap' z' ∧ val z k = val x s / d ∧ sizeL z k = k ∧ val z' k' = val x s % d ∧ Below w.heap.size w w' := by
  have hx := h.2.2.1
  have H := fun j hj w => limDiv_ok x d s hx hd j hj w
  have hd0 : (d == 0) = false := by simp; omega
  have hmk := fun w => make_any (s : Int) s rfl (by omega) w
  have hA := apart_of h
  have hBW := below1 w (.cells (arrOf (fun _ => 0) s) 23)
  have hnx := h.next hBW
  have hO := Own.new w (fun _ => 0) s
  have hqv := quo_val hx hd.1 s
  have HQW : Hid (Words (quoW x d s)) := quoW_words hx hd.1 s
  have hrb := remJ_bd x d s s hd.1
  have HB : Hid (Below w.heap.size w (w.alloc (.cells (arrOf (fun _ => 0) s) 23))) := hBW
  clear hBW h hx
  go_enter Tryz.func44, Tryz.ntmps44
  go_wp2
  generalize w.alloc (.cells (arrOf (fun _ => 0) s) 23) = wA at *
  go_loopw [7, 8, 19] (fun c i u19 wr => ∃ (k : Nat), k ≤ s ∧ i = .int .i64 ((k : Int) - 1) ∧ c = .int .u64 (remJ x d s (s - k)) ∧ Own w.heap.size s (quoKb x d s k) wr ∧ Upd w.heap.size wA wr) (fun _ i _ _ => (intOf i + 1).toNat)
  case atStart => exact ⟨s, Nat.le_refl _, by go_num, by rw [Nat.sub_self]; rfl, hO.congr fun i _ => by unfold quoKb; rw [if_neg (by omega)], Upd.refl _ _⟩
  case round =>
    clear hO
    obtain ⟨k, hk, rfl, rfl, hO, hU⟩ := hrel
    by_cases h0 : k = 0
    · subst h0
      have hN := hO.num (x := quoKb x d s 0) (fun i => by unfold quoKb; split; exact HQW.out i; decide) 0 s s (by omega) (Nat.le_refl _) (by unfold maxLen; omega)
      have hT := trim_any _ s s _ _ (by omega) hN
      have hle := sizeL_le (segW (quoKb x d s 0) 0 s) s
      have HV : Hid (val (segW (quoKb x d s 0) 0 s) (sizeL (segW (quoKb x d s 0) 0 s) s) = val x s / d) := by
        show _ = _
        rw [val_bare, val_congr (y := quoW x d s) s fun i hi => by rw [segW_lt _ _ _ i hi, Nat.zero_add]; unfold quoKb; rw [if_pos (by omega)], hqv.1]
      have HR : Hid (remJ x d s s = val x s % d) := hqv.2
      have HBr : Hid (Below w.heap.size w wr) := HB.out.trans (hU.below (Nat.le_refl _))
      have HST : Hid (sizeL (segW (quoKb x d s 0) 0 s) (sizeL (segW (quoKb x d s 0) 0 s) s) = sizeL (segW (quoKb x d s 0) 0 s) s) := sizeL_sizeL _ _
      generalize segW (quoKb x d s 0) 0 s = qz at *
      generalize sizeL qz s = k1 at *
      have hof := fun wr => ofb_any (remJ x d s s) wr (by omega)
      rw [Nat.sub_zero]
      generalize remJ x d s s = rm at *
      clear hN hO hU H hqv
      go_wp2_with (go_at_call 41; refine hT.mono ?_; rintro e w1 ⟨g, cap, rfl, hN1, hB1⟩; clear hT)
      go_wp2_with (go_at_call 86; refine (hof _).mono ?_; rintro e w2 ⟨g2, k2, p2, z2, rfl, hk2, hN2, hv2, hB2⟩; clear hof)
      go_ret2
      exact ⟨g, k1, cap, qz, g2, k2, p2, z2, rfl, hle, hk2, hN1.next hB2, hN2, HV.out, HST.out, by rw [hv2, HR.out], (HBr.out.trans (hB1.mono HBr.out.size)).trans (hB2.mono (Nat.le_trans HBr.out.size hB1.size))⟩
    · obtain ⟨j, rfl⟩ : ∃ j, k = j + 1 := ⟨k - 1, by omega⟩
      have hjm : (j : Int) < s := by omega
      have ej : ((j + 1 : Nat) : Int) - 1 = j := by omega
      have ej2 : s - (j + 1) = s - 1 - j := by omega
      rw [ej, ej2]
      obtain ⟨b, off, rfl, hbs, hc⟩ := (hU.num' hA hnx).cells (by omega)
      have hcx := hc j (by omega)
      have hcj : ∃ u, wr.cell? ⟨w.heap.size, j, none⟩ = some (.int .u64 u) := ⟨_, hO.cell j (by omega)⟩
      obtain ⟨u, hcj⟩ := hcj
      have hfj := hO.frozen j
      have HJ := H j (by omega)
      have HO : Hid (Own w.heap.size s (quoKb x d s j) (wr.setCell ⟨w.heap.size, j, none⟩ (.int .u64 (quoW x d s j)))) := (hO.set j (quoW x d s j)).congr fun i hi => by
        unfold quoKb
        by_cases e : i = j
        · subst e; rw [if_pos rfl, if_pos (by omega)]
        · rw [if_neg e]
          by_cases e2 : j + 1 ≤ i ∧ i < s
          · rw [if_pos e2, if_pos (by omega)]
          · rw [if_neg e2, if_neg (by omega)]
      have HU : Hid (Upd w.heap.size wA (wr.setCell ⟨w.heap.size, j, none⟩ (.int .u64 (quoW x d s j)))) := hU.set j _
      clear hO hU H ej ej2 hc hqv hA hnx
      go_wp2_with (go_at_call 85; refine (HJ _).mono ?_; rintro e w' ⟨rfl, m', rfl⟩)
      go_roundw
      case rel => exact ⟨j, by omega, by go_num, rfl, HO.out, HU.out.drewN m'⟩
      case measure => simp [intOf]
end Go.Proofs.YtecoajeejombbaaGreatDoor

namespace Go.Proofs.YtecoajeejombbaaGreatDoor
open Go.RowKit

/-- the digits of the lowest L places, as bytes -/
def blB (V : Int) (L : Nat) : List Value := (List.range L).map fun i => Value.int .u8 (48 + dgt V i)
theorem blB_succ (V : Int) (L : Nat) : blB V L ++ [Value.int .u8 (48 + dgt V L)] = blB V (L + 1) := by simp [blB, List.range_succ]
def slLen : Value → Nat | .slice _ n _ => n | _ => 0

theorem p22 : ∀ s : Nat, (18446744073709551616 : Int) ^ s ≤ 10 ^ (22 * s)
  | 0 => by simp
  | s + 1 => by
    have ih := p22 s
    have e : (10 : Int) ^ (22 * (s + 1)) = 10 ^ (22 * s) * 10000000000000000000000 := by rw [Nat.mul_add, Int.pow_add]; rfl
    rw [e, Int.pow_succ]
    have h0 := pw_pos s
    have h1 := p10_pos (22 * s)
    generalize (18446744073709551616 : Int) ^ s = A at *
    generalize (10 : Int) ^ (22 * s) = B at *
    omega
theorem p10_lt {L s : Nat} (h : (10 : Int) ^ L < 18446744073709551616 ^ s) : L < 22 * s := by
  rcases Nat.lt_or_ge L (22 * s) with h' | h'
  · exact h'
  · have h2 := p22 s
    obtain ⟨k, rfl⟩ : ∃ k, L = 22 * s + k := ⟨L - 22 * s, by omega⟩
    rw [Int.pow_add] at h
    have h3 := p10_pos k
    have h4 := p10_pos (22 * s)
    have : (10 : Int) ^ (22 * s) * 1 ≤ 10 ^ (22 * s) * 10 ^ k := Int.mul_le_mul_of_nonneg_left (by omega) (by omega)
    omega
/-- bytes that are made: block g holds those of f, n of them, none frozen -/
def HasB (g n : Nat) (f : Nat → Int) (w : World) : Prop := g < w.heap.size ∧ ∀ i, i < n → w.cell? ⟨g, i, none⟩ = some (.int .u8 (f i)) ∧ w.frozen? ⟨g, i, none⟩ = false
theorem owns_cells {w : World} {base g L cap : Nat} {V : Int} (h : w.ownsRow base 5 1 (.slice (some ⟨g, 0, none⟩) L cap) L (blB V L)) : base ≤ g ∧ L ≤ cap ∧ cap ≤ maxLen ∧ HasB g L (fun i => 48 + dgt V i) w := by
  obtain ⟨hl, h⟩ := h
  rcases h with ⟨h, _⟩ | ⟨g', cap', cur, he, hb, hh, h1, h2, h3, h4⟩
  · cases h
  · cases he
    have hg : g < w.heap.size := by
      rcases Nat.lt_or_ge g w.heap.size with h' | h'
      · exact h'
      · rw [Array.getElem?_eq_none h'] at hh; cases hh
    refine ⟨hb, h1, h2, hg, fun i hi => ⟨?_, ?_⟩⟩
    · have hcur : cur[i]? = some (.int .u8 (48 + dgt V i)) := by
        have : (cur.toList.take (L * 1))[i]? = some (.int .u8 (48 + dgt V i)) := by rw [h4]; simp [blB, hi]
        rw [List.getElem?_take] at this
        simpa [hi] using this
      unfold World.cell?
      simp [hh, hcur]
    · unfold World.frozen?
      simp [hh]

end Go.Proofs.YtecoajeejombbaaGreatDoor
