/-
  What the program's Join does: a contract.
-/
import Derived.Test.YtgjdhfmpemionaaDoorGu
import Derived.Lib.ItoaLen
set_option linter.unusedVariables false
set_option linter.unusedSimpArgs false
set_option maxRecDepth 20000
namespace Go.Proofs.YtgjdhfmpemionaaDoor
open Go.RowKit

theorem texT_len {c : Int} {s g : Bool} {d : List UInt8} {e : Int} (hd : d.length ≤ 4000) (he : -9223372036854775808 ≤ e ∧ e ≤ 9223372036854775807) : (texT c s g d e).length ≤ 4100 := by
  have hi := Lib.itoa_length_le e he.1 he.2
  have h1 : (bodT c g d e).length ≤ 4050 := by
    unfold bodT
    split
    · simp
    · split
      · unfold nanT
        simp only [List.length_append, List.length_cons]
        split <;> split <;> simp <;> omega
      · unfold finT dgT exT
        simp only [List.length_append]
        split <;> split <;> simp <;> omega
  unfold texT
  rw [List.length_append]
  split <;> simp <;> omega
set_option maxHeartbeats 2000000 in
theorem join_ok (c : Int) (s g : Bool) (d : List UInt8) (e : Int) (w : World) (hd : d.length ≤ 4000)  (T : List UInt8)
    (c24 : ∀ W, Below w.heap.size w W → Calls Tryd.prog 24 #[PV c s g d e] W fun x w' => x = .returned (.string (B T)) ∧ Below W.heap.size W w')
    (c9 : ∀ W, Calls Tryd.prog 9 #[.string (B T)] W fun x w' => x = .returned (.tuple #[PV c s g d e, .int .i64 0]) ∧ Below W.heap.size W w') :
    Calls Tryd.prog 12 #[PV c s g d e] w fun x w' => x = .returned (.tuple #[.string (B T), .int .i64 0]) ∧ Below w.heap.size w w' := by
  have htl := B_toList
  have hsz := B_size d
  have hdi : (d.length : Int) ≤ 4000 := by omega
  unfold PV at c24 c9 ⊢
  have hsm := cell_set_map
  go_enter Tryd.func12, Tryd.ntmps12
  go_wp2_with (first | (go_at_call 24; refine (c24 _ (by (repeat (first | with_reducible assumption | with_reducible exact Below.refl _ _ | with_reducible refine Below.setCell ?_ (by first | omega | (dsimp only; omega) | (simp <;> omega)) _ | with_reducible refine Below.alloc ?_ (by first | omega | (simp <;> omega)) _ | with_reducible refine Below.drew ?_)))).mono ?_; rintro x w1 ⟨rfl, hb1⟩; obtain ⟨hc1, hf1⟩ := bcell hb1; have hz1_0 : w.heap.size < w1.heap.size := lt_below hb1 (by first | with_reducible assumption | (simp; done) | (simp; omega)); have hl1_0 := Nat.le_of_lt hz1_0; have hA1 := bnext (w0 := w) (by (repeat (first | with_reducible assumption | with_reducible exact Below.refl _ _ | with_reducible refine Below.setCell ?_ (by first | omega | (dsimp only; omega) | (simp <;> omega)) _ | with_reducible refine Below.alloc ?_ (by first | omega | (simp <;> omega)) _ | with_reducible refine Below.drew ?_))) hb1; have hs1 := hA1.size; clear hb1) | (go_at_call 9; refine (c9 _).mono ?_; rintro x w2 ⟨rfl, hb2⟩; obtain ⟨hc2, hf2⟩ := bcell hb2; have hz2_0 : w.heap.size < w2.heap.size := lt_below hb2 (by first | with_reducible assumption | (simp; done) | (simp; omega)); have hl2_0 := Nat.le_of_lt hz2_0; have hA2 := bnext (w0 := w) (by (repeat (first | with_reducible assumption | with_reducible exact Below.refl _ _ | with_reducible refine Below.setCell ?_ (by first | omega | (dsimp only; omega) | (simp <;> omega)) _ | with_reducible refine Below.alloc ?_ (by first | omega | (simp <;> omega)) _ | with_reducible refine Below.drew ?_))) hb2; have hs2 := hA2.size; clear hb2))
  go_ret2
  exact ⟨rfl, by (repeat (first | with_reducible assumption | with_reducible exact Below.refl _ _ | with_reducible refine Below.setCell ?_ (by first | omega | (dsimp only; omega) | (simp <;> omega)) _ | with_reducible refine Below.alloc ?_ (by first | omega | (simp <;> omega)) _ | with_reducible refine Below.drew ?_))⟩
set_option maxHeartbeats 2000000 in
theorem join_e (c : Int) (s g : Bool) (d : List UInt8) (e : Int) (w : World) (hd : d.length ≤ 4000) (V1 : Int) (V2 V3 : Bool) (V4 : List UInt8) (V5 : Int) (E : Int) (hE : (E != 0) = true) (T : List UInt8)
    (c24 : ∀ W, Below w.heap.size w W → Calls Tryd.prog 24 #[PV c s g d e] W fun x w' => x = .returned (.string (B T)) ∧ Below W.heap.size W w')
    (c9 : ∀ W, Calls Tryd.prog 9 #[.string (B T)] W fun x w' => x = .returned (.tuple #[PV V1 V2 V3 V4 V5, .int .i64 E]) ∧ Below W.heap.size W w') :
    Calls Tryd.prog 12 #[PV c s g d e] w fun x w' => x = .returned (.tuple #[.string (B []), .int .i64 1]) ∧ Below w.heap.size w w' := by
  have htl := B_toList
  have hsz := B_size d
  have hdi : (d.length : Int) ≤ 4000 := by omega
  unfold PV at c24 c9 ⊢
  have hsm := cell_set_map
  go_enter Tryd.func12, Tryd.ntmps12
  go_wp2_with (first | (go_at_call 24; refine (c24 _ (by (repeat (first | with_reducible assumption | with_reducible exact Below.refl _ _ | with_reducible refine Below.setCell ?_ (by first | omega | (dsimp only; omega) | (simp <;> omega)) _ | with_reducible refine Below.alloc ?_ (by first | omega | (simp <;> omega)) _ | with_reducible refine Below.drew ?_)))).mono ?_; rintro x w1 ⟨rfl, hb1⟩; obtain ⟨hc1, hf1⟩ := bcell hb1; have hz1_0 : w.heap.size < w1.heap.size := lt_below hb1 (by first | with_reducible assumption | (simp; done) | (simp; omega)); have hl1_0 := Nat.le_of_lt hz1_0; have hA1 := bnext (w0 := w) (by (repeat (first | with_reducible assumption | with_reducible exact Below.refl _ _ | with_reducible refine Below.setCell ?_ (by first | omega | (dsimp only; omega) | (simp <;> omega)) _ | with_reducible refine Below.alloc ?_ (by first | omega | (simp <;> omega)) _ | with_reducible refine Below.drew ?_))) hb1; have hs1 := hA1.size; clear hb1) | (go_at_call 9; refine (c9 _).mono ?_; rintro x w2 ⟨rfl, hb2⟩; obtain ⟨hc2, hf2⟩ := bcell hb2; have hz2_0 : w.heap.size < w2.heap.size := lt_below hb2 (by first | with_reducible assumption | (simp; done) | (simp; omega)); have hl2_0 := Nat.le_of_lt hz2_0; have hA2 := bnext (w0 := w) (by (repeat (first | with_reducible assumption | with_reducible exact Below.refl _ _ | with_reducible refine Below.setCell ?_ (by first | omega | (dsimp only; omega) | (simp <;> omega)) _ | with_reducible refine Below.alloc ?_ (by first | omega | (simp <;> omega)) _ | with_reducible refine Below.drew ?_))) hb2; have hs2 := hA2.size; clear hb2))
  go_ret2
  exact ⟨rfl, by (repeat (first | with_reducible assumption | with_reducible exact Below.refl _ _ | with_reducible refine Below.setCell ?_ (by first | omega | (dsimp only; omega) | (simp <;> omega)) _ | with_reducible refine Below.alloc ?_ (by first | omega | (simp <;> omega)) _ | with_reducible refine Below.drew ?_))⟩
set_option maxHeartbeats 2000000 in
theorem join_ne (c : Int) (s g : Bool) (d : List UInt8) (e : Int) (w : World) (hd : d.length ≤ 4000) (V1 : Int) (V2 V3 : Bool) (V4 : List UInt8) (V5 : Int) (hne : ¬ (V1 = c ∧ V2 = s ∧ V3 = g ∧ V4 = d ∧ V5 = e)) (T : List UInt8)
    (c24 : ∀ W, Below w.heap.size w W → Calls Tryd.prog 24 #[PV c s g d e] W fun x w' => x = .returned (.string (B T)) ∧ Below W.heap.size W w')
    (c9 : ∀ W, Calls Tryd.prog 9 #[.string (B T)] W fun x w' => x = .returned (.tuple #[PV V1 V2 V3 V4 V5, .int .i64 0]) ∧ Below W.heap.size W w') :
    Calls Tryd.prog 12 #[PV c s g d e] w fun x w' => x = .returned (.tuple #[.string (B []), .int .i64 1]) ∧ Below w.heap.size w w' := by
  have htl := B_toList
  have hsz := B_size d
  have hdi : (d.length : Int) ≤ 4000 := by omega
  unfold PV at c24 c9 ⊢
  have hsm := cell_set_map
  go_enter Tryd.func12, Tryd.ntmps12
  go_wp2_with (first | (go_at_call 24; refine (c24 _ (by (repeat (first | with_reducible assumption | with_reducible exact Below.refl _ _ | with_reducible refine Below.setCell ?_ (by first | omega | (dsimp only; omega) | (simp <;> omega)) _ | with_reducible refine Below.alloc ?_ (by first | omega | (simp <;> omega)) _ | with_reducible refine Below.drew ?_)))).mono ?_; rintro x w1 ⟨rfl, hb1⟩; obtain ⟨hc1, hf1⟩ := bcell hb1; have hz1_0 : w.heap.size < w1.heap.size := lt_below hb1 (by first | with_reducible assumption | (simp; done) | (simp; omega)); have hl1_0 := Nat.le_of_lt hz1_0; have hA1 := bnext (w0 := w) (by (repeat (first | with_reducible assumption | with_reducible exact Below.refl _ _ | with_reducible refine Below.setCell ?_ (by first | omega | (dsimp only; omega) | (simp <;> omega)) _ | with_reducible refine Below.alloc ?_ (by first | omega | (simp <;> omega)) _ | with_reducible refine Below.drew ?_))) hb1; have hs1 := hA1.size; clear hb1) | (go_at_call 9; refine (c9 _).mono ?_; rintro x w2 ⟨rfl, hb2⟩; obtain ⟨hc2, hf2⟩ := bcell hb2; have hz2_0 : w.heap.size < w2.heap.size := lt_below hb2 (by first | with_reducible assumption | (simp; done) | (simp; omega)); have hl2_0 := Nat.le_of_lt hz2_0; have hA2 := bnext (w0 := w) (by (repeat (first | with_reducible assumption | with_reducible exact Below.refl _ _ | with_reducible refine Below.setCell ?_ (by first | omega | (dsimp only; omega) | (simp <;> omega)) _ | with_reducible refine Below.alloc ?_ (by first | omega | (simp <;> omega)) _ | with_reducible refine Below.drew ?_))) hb2; have hs2 := hA2.size; clear hb2))
  all_goals
    first
    | exact absurd ⟨by assumption, by assumption, by assumption, by assumption, by assumption⟩ hne
    | (go_ret2; exact ⟨rfl, by (repeat (first | with_reducible assumption | with_reducible exact Below.refl _ _ | with_reducible refine Below.setCell ?_ (by first | omega | (dsimp only; omega) | (simp <;> omega)) _ | with_reducible refine Below.alloc ?_ (by first | omega | (simp <;> omega)) _ | with_reducible refine Below.drew ?_))⟩)
set_option maxHeartbeats 2000000 in
theorem join_long (c : Int) (s g : Bool) (d : List UInt8) (e : Int) (w : World) (hd : 4000 < d.length) :
    Calls Tryd.prog 12 #[PV c s g d e] w fun x w' => x = .returned (.tuple #[.string (B []), .int .i64 1]) ∧ Below w.heap.size w w' := by
  have hsz := B_size d
  have hdi : (4000 : Int) < d.length := by omega
  unfold PV
  go_enter Tryd.func12, Tryd.ntmps12
  go_wp2
  go_ret2
  exact ⟨rfl, by (repeat (first | with_reducible assumption | with_reducible exact Below.refl _ _ | with_reducible refine Below.setCell ?_ (by first | omega | (dsimp only; omega) | (simp <;> omega)) _ | with_reducible refine Below.alloc ?_ (by first | omega | (simp <;> omega)) _ | with_reducible refine Below.drew ?_))⟩
/-- does Join take the parts? -/
def jnP (p : Prt) : Prop := p.dig.length ≤ 4000 ∧ cutP (texT p.cls p.sg p.sn p.dig p.ex) = some p
theorem cutE_some {l : List UInt8} {p : Prt} (h : cutP l = some p) : cutE l = 0 ∧ cutV l = p := by
  unfold cutE cutV
  have hl : ¬ 4000 < l.length := by
    intro h2; unfold cutP at h; rw [if_pos h2] at h; cases h
  rw [if_neg hl, h]; exact ⟨rfl, rfl⟩
theorem cutE_zero {l : List UInt8} (h : cutE l = 0) : cutP l = some (cutV l) := by
  unfold cutE at h
  split at h
  · cases h
  · split at h
    · rename_i h2
      obtain ⟨p, hp⟩ := Option.isSome_iff_exists.1 h2
      unfold cutV; rw [hp]; rfl
    · cases h
def Tb10 (w : World) : Prop := Lib.TabIs Tryd.prog w "internal/strconv.uint64pow10" .u64 Lib.pow10Tab
theorem Tb10.next {w w' : World} (h : Tb10 w) (hb : Below w.heap.size w w') : Tb10 w' := Lib.tabBelow_of_tabIs h w' hb
theorem join_y (p : Prt) (w : World) (hT : Tb10 w) (he : -9223372036854775808 ≤ p.ex ∧ p.ex ≤ 9223372036854775807) (h : jnP p) :
    Calls Tryd.prog 12 #[p.v] w fun x w' => x = .returned (.tuple #[.string (B (texT p.cls p.sg p.sn p.dig p.ex)), .int .i64 0]) ∧ Below w.heap.size w w' := by
  obtain ⟨e1, e2⟩ := cutE_some h.2
  have c9 := fun W => cut_any (texT p.cls p.sg p.sn p.dig p.ex) W (by have := texT_len (c := p.cls) (s := p.sg) (g := p.sn) h.1 he; omega)
  rw [e1, e2] at c9
  exact join_ok _ _ _ _ _ w h.1 _ (fun W hW => text_any _ _ _ _ _ W (by have := h.1; omega) he (hT.next hW)) c9
theorem join_n (p : Prt) (w : World) (hT : Tb10 w) (he : -9223372036854775808 ≤ p.ex ∧ p.ex ≤ 9223372036854775807) (h : ¬ jnP p) :
    Calls Tryd.prog 12 #[p.v] w fun x w' => x = .returned (.tuple #[.string (B []), .int .i64 1]) ∧ Below w.heap.size w w' := by
  by_cases hd : p.dig.length ≤ 4000
  · have c9 := fun W => cut_any (texT p.cls p.sg p.sn p.dig p.ex) W (by have := texT_len (c := p.cls) (s := p.sg) (g := p.sn) hd he; omega)
    have c24 := fun W (hW : Below w.heap.size w W) => text_any p.cls p.sg p.sn p.dig p.ex W (by omega) he (hT.next hW)
    by_cases hE : cutE (texT p.cls p.sg p.sn p.dig p.ex) = 0
    · have hs := cutE_zero hE
      rw [hE] at c9
      refine join_ne _ _ _ _ _ w hd _ _ _ _ _ (fun hh => h ⟨hd, ?_⟩) _ c24 c9
      rw [hs]
      obtain ⟨h1, h2, h3, h4, h5⟩ := hh
      congr 1
      obtain ⟨q1, q2, q3, q4, q5⟩ := p
      generalize cutV _ = V at *
      obtain ⟨v1, v2, v3, v4, v5⟩ := V
      dsimp only at h1 h2 h3 h4 h5
      subst h1 h2 h3 h4 h5
      rfl
    · exact join_e _ _ _ _ _ w hd _ _ _ _ _ _ (by simpa using hE) _ c24 c9
  · exact join_long _ _ _ _ _ w (by omega)
end Go.Proofs.YtgjdhfmpemionaaDoor
