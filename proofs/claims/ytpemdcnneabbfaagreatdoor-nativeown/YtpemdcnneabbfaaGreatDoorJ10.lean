/-
  Texts that the proof leans on.
-/
import Derived.Test.YtpemdcnneabbfaaGreatDoorJ5
import Derived.Laws.IdiomStrings
set_option linter.unusedVariables false
set_option linter.unusedSimpArgs false
set_option linter.unusedSectionVars false
set_option maxRecDepth 20000
namespace Go.Proofs.YtpemdcnneabbfaaGreatDoor
open Go.RowKit
theorem isd_all {l : List UInt8} (h : isd l = true) : l.all dg = true := by
  unfold isd at h; simp only [Bool.and_eq_true] at h; exact h.1
section
/-- block g holds n bytes, which may be written -/
structure By (g n : Nat) (x : Nat → Int) (W : World) : Prop where
  lt : g < W.heap.size
  cell : ∀ j, j < n → W.cell? ⟨g, j, none⟩ = some (.int .u8 (x j))
  frz : ∀ j, j < n → W.frozen? ⟨g, j, none⟩ = false
theorem By.set {g n : Nat} {x : Nat → Int} {W : World} (h : By g n x W) (i : Nat) (v : Int) : By g n (fun j => if j = i then v else x j) (W.setCell ⟨g, i, none⟩ (.int .u8 v)) := by
  refine ⟨by simpa using h.lt, fun j hj => ?_, fun j hj => by rw [World.frozen?_setCell]; exact h.frz j hj⟩
  show _ = some (Value.int .u8 (if j = i then v else x j))
  by_cases e : j = i
  · subst e
    rw [if_pos rfl]
    exact World.cell?_setCell_same (h := h.cell j hj) ..
  · rw [if_neg e]
    exact (World.cell?_setCell_other (h := by intro h; cases h; exact e rfl) ..).trans (h.cell j hj)
theorem By.cong {g n : Nat} {x y : Nat → Int} {W : World} (h : By g n x W) (e : ∀ j, j < n → x j = y j) : By g n y W :=
  ⟨h.lt, fun j hj => by rw [h.cell j hj, e j hj], h.frz⟩
theorem By.of {l : List UInt8} {w : World} {cap : Nat} : By w.heap.size l.length (by_ l) (w.drew.alloc (.cells (bytesRow (B l) cap) 5 ((bytesRow (B l) cap).size, (bytesRow (B l) cap).size + 1))) := by
  have hsz : l.length ≤ (bytesRow (B l) cap).size := by unfold bytesRow; simp [B]
  refine ⟨by simp, fun j hj => ?_, fun j hj => ?_⟩
  · have : (bytesRow (B l) cap)[j]? = some (.int .u8 (by_ l j)) := by
      unfold bytesRow by_
      rw [dif_pos hj, Array.getElem?_append_left (by simpa [B] using hj)]
      simp [B, hj]
    have hh : (w.drew.alloc (.cells (bytesRow (B l) cap) 5 ((bytesRow (B l) cap).size, (bytesRow (B l) cap).size + 1))).heap[w.heap.size]? = some (.cells (bytesRow (B l) cap) 5 ((bytesRow (B l) cap).size, (bytesRow (B l) cap).size + 1)) := by
      show (Array.push w.heap _)[w.heap.size]? = _
      simp
    unfold World.cell?
    simp only [hh]
    simp [this]
  · have hh : (w.drew.alloc (.cells (bytesRow (B l) cap) 5 ((bytesRow (B l) cap).size, (bytesRow (B l) cap).size + 1))).heap[w.heap.size]? = some (.cells (bytesRow (B l) cap) 5 ((bytesRow (B l) cap).size, (bytesRow (B l) cap).size + 1)) := by
      show (Array.push w.heap _)[w.heap.size]? = _
      simp
    unfold World.frozen?
    simp only [hh]
    simp
    omega
/-- a small letter -/
def sm (c : UInt8) : UInt8 := if 65 ≤ c.toNat ∧ c.toNat ≤ 90 then c + 32 else c
def sml (l : List UInt8) : List UInt8 := l.map sm
theorem sml_len (l : List UInt8) : (sml l).length = l.length := by simp [sml]
theorem sm_nat (c : UInt8) : ((sm c).toNat : Int) = if 65 ≤ (c.toNat : Int) ∧ (c.toNat : Int) ≤ 90 then (c.toNat : Int) + 32 else c.toNat := by
  unfold sm
  have := c.toNat_lt
  by_cases h : 65 ≤ c.toNat ∧ c.toNat ≤ 90
  · rw [if_pos h, if_pos (by omega), UInt8.toNat_add]
    simp; omega
  · rw [if_neg h, if_neg (by omega)]
theorem by_sml {l : List UInt8} {i : Nat} (h : i < l.length) : by_ (sml l) i = if 65 ≤ by_ l i ∧ by_ l i ≤ 90 then by_ l i + 32 else by_ l i := by
  unfold by_
  rw [dif_pos (by rw [sml_len]; exact h), dif_pos h, ← sm_nat]
  simp [sml]
def mix (l : List UInt8) (k j : Nat) : Int := if j < k then by_ (sml l) j else by_ l j
theorem mix_zero (l : List UInt8) (j : Nat) : mix l 0 j = by_ l j := if_neg (Nat.not_lt_zero _)
theorem mix_next {l : List UInt8} {k : Nat} (h : k < l.length) (j : Nat) : (if j = k then by_ (sml l) k else mix l k j) = mix l (k + 1) j := by
  unfold mix
  by_cases e : j = k
  · subst e; rw [if_pos rfl, if_pos (by omega)]
  · rw [if_neg e]
    by_cases e2 : j < k
    · rw [if_pos e2, if_pos (by omega)]
    · rw [if_neg e2, if_neg (by omega)]
theorem by_get {l : List UInt8} {i : Nat} (h : i < l.length) : ((l[i]'h).toNat : Int) = by_ l i := by unfold by_; rw [dif_pos h]
theorem back_any {l : List UInt8} {g cap n : Nat} {x : Nat → Int} {W : World} (hn : l.length = n) (h : By g n x W) (e : ∀ j, j < n → x j = by_ l j) : (convert 48 9 (.slice (some ⟨g, 0, none⟩) n cap)).run Tryz.prog W = .ok (.string (B l)) W := by
  subst hn
  refine run_convert_bytes_back W 48 9 5 ⟨g, 0, none⟩ cap l Tryz.underlying48 Tryz.underlying5 Tryz.underlying9 fun j hj => ?_
  have := h.cell j hj
  rw [e j hj, ← by_get hj] at this
  rw [show (⟨g, 0, none⟩ : Addr).add j = ⟨g, j, none⟩ by unfold Addr.add; split <;> simp_all]
  exact this
set_option maxHeartbeats 1000000 in
theorem gsmall_any (l : List UInt8) (w : World) (hs : l.length < 10001) :
    Calls Tryz.prog 82 #[.string (B l)] w fun e w' => e = .returned (.string (B (sml l))) ∧ Below w.heap.size w w' := by
  have hsz := B_size l
  have hcv := run_bytes_of_string (P := Tryz.prog) w 9 48 5 (B l) Tryz.underlying9 Tryz.underlying48 Tryz.underlying5
  rw [hsz] at hcv
  generalize hcp : grownCap w l.length 0 5 = cap at hcv
  have HY : By w.heap.size l.length (by_ l) (w.drew.alloc (.cells (bytesRow (B l) cap) 5 ((bytesRow (B l) cap).size, (bytesRow (B l) cap).size + 1))) := By.of
  have HB : Below w.heap.size w (w.drew.alloc (.cells (bytesRow (B l) cap) 5 ((bytesRow (B l) cap).size, (bytesRow (B l) cap).size + 1))) := (Below.refl _ _).drew.alloc (Nat.le_refl _) _
  generalize hW : w.drew.alloc (.cells (bytesRow (B l) cap) 5 ((bytesRow (B l) cap).size, (bytesRow (B l) cap).size + 1)) = W at *
  clear hW hcp
  go_enter Tryz.func82, Tryz.ntmps82
  go_wp2
  go_loopw [4, 5, 10] (fun u4 u5 i wr => ∃ k : Nat, k ≤ l.length ∧ i = .int .i64 k ∧ By w.heap.size l.length (mix l k) wr ∧ Below w.heap.size w wr) (fun _ _ i _ => l.length - (intOf i).toNat)
  case atStart => exact ⟨0, Nat.zero_le _, rfl, HY.cong fun j _ => (mix_zero l j).symm, HB⟩
  case round =>
    clear HY HB hcv
    obtain ⟨k, hk, rfl, hY, hB⟩ := hrel
    by_cases hlt : k < l.length
    · have hki : (k : Int) < l.length := by omega
      have hc := hY.cell k hlt
      have hf := hY.frz k hlt
      rw [show mix l k k = by_ l k from if_neg (Nat.lt_irrefl _)] at hc
      have hbd := by_bd l k
      have HS : Hid (by_ (sml l) k = if 65 ≤ by_ l k ∧ by_ l k ≤ 90 then by_ l k + 32 else by_ l k) := by_sml hlt
      have HM : Hid (∀ j, (if j = k then by_ (sml l) k else mix l k j) = mix l (k + 1) j) := mix_next hlt
      have HY : Hid (By w.heap.size l.length (mix l k) wr) := hY
      have HB : Hid (Below w.heap.size w wr) := hB
      clear hY hB
      by_cases h1 : 65 ≤ by_ l k ∧ by_ l k ≤ 90
      · obtain ⟨h1, h2⟩ := h1
        have HV : Hid (by_ (sml l) k = by_ l k + 32) := by show _ = _; rw [HS.out, if_pos ⟨h1, h2⟩]
        generalize by_ l k = b at *
        go_wp2
        go_roundw
        case rel =>
          refine ⟨k + 1, by omega, by go_num, ?_, HB.out.setCell (Nat.le_refl _) _⟩
          refine By.cong (HY.out.set k _) fun j hj => ?_
          rw [← HM.out j, HV.out]
          all_goals
            by_cases e : j = k
            · rw [if_pos e, if_pos e]; omega
            · rw [if_neg e, if_neg e]
        case measure => simp [intOf]; omega
      · have HV : Hid (by_ (sml l) k = by_ l k) := by show _ = _; rw [HS.out, if_neg h1]
        have hrel2 : Hid (By w.heap.size l.length (mix l (k + 1)) wr) := HY.out.cong fun j hj => by
          rw [← HM.out j, HV.out]
          by_cases e : j = k
          · subst e; rw [if_pos rfl]; exact if_neg (Nat.lt_irrefl _)
          · rw [if_neg e]
        generalize by_ l k = b at *
        rcases Int.lt_or_le b 65 with h2 | h2
        · clear h1
          go_wp2
          go_roundw
          case rel => exact ⟨k + 1, by omega, by go_num, hrel2.out, HB.out⟩
          case measure => simp [intOf]; omega
        · have h3 : 90 < b := by omega
          clear h1
          go_wp2
          go_roundw
          case rel => exact ⟨k + 1, by omega, by go_num, hrel2.out, HB.out⟩
          case measure => simp [intOf]; omega
    · obtain rfl : k = l.length := by omega
      have hbk := back_any (l := sml l) (cap := cap) (sml_len l) hY fun j hj => if_pos hj
      have HB : Hid (Below w.heap.size w wr) := hB
      clear hY hB
      go_wp2
      go_ret
      exact ⟨rfl, HB.out⟩
end
end Go.Proofs.YtpemdcnneabbfaaGreatDoor
