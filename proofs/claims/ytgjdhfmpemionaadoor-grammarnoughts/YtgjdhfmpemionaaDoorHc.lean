/-
  What the document's Good and Join do: contracts.
-/
import Derived.Test.YtgjdhfmpemionaaDoorHb
set_option linter.unusedVariables false
set_option linter.unusedSimpArgs false
set_option maxRecDepth 20000
namespace Go.Proofs.YtgjdhfmpemionaaDoor
open Go.RowKit

set_option maxHeartbeats 2000000 in
theorem gd_bad (s : Bool) (c : Int) (g : Bool) (y : UInt8) (ys : List UInt8) (hd : ys.length < 100000) (hi : isd (y :: ys) = false) (e : Int) (w : World) :
    Calls Tryd.prog 25 #[PV c s g (y :: ys) e] w fun x w' => x = .returned (.bool false) ∧ Below w.heap.size w w' := by
  have htl := B_toList
  have hsm := cell_set_map
  have hsz : (B (y :: ys)).size = ys.length + 1 := B_size (y :: ys)
  have hsb := by_lt (l := y :: ys) (i := 0) (by rw [hsz]; omega)
  rw [by_zero] at hsb
  have hbd := y.toNat_lt
  have c34 := fun W => isd_any (y :: ys) W (by rw [List.length_cons]; omega)
  rw [hi] at c34
  unfold PV
  go_enter Tryd.func25, Tryd.ntmps25
  go_wp2_with (first | (go_at_call 34; refine (c34 _).mono ?_; rintro x w1 ⟨rfl, hb1⟩; obtain ⟨hc1, hf1⟩ := bcell hb1; have hz1_0 : w.heap.size < w1.heap.size := lt_below hb1 (by first | with_reducible assumption | (simp; done) | (simp; omega)); have hl1_0 := Nat.le_of_lt hz1_0; have hA1 := bnext (w0 := w) (by (repeat (first | with_reducible assumption | with_reducible exact Below.refl _ _ | with_reducible refine Below.setCell ?_ (by first | omega | (dsimp only; omega) | (simp <;> omega)) _ | with_reducible refine Below.alloc ?_ (by first | omega | (simp <;> omega)) _ | with_reducible refine Below.drew ?_))) hb1; have hs1 := hA1.size; clear hb1))
  go_ret
  exact ⟨rfl, by (repeat (first | with_reducible assumption | with_reducible exact Below.refl _ _ | with_reducible refine Below.setCell ?_ (by first | omega | (dsimp only; omega) | (simp <;> omega)) _ | with_reducible refine Below.alloc ?_ (by first | omega | (simp <;> omega)) _ | with_reducible refine Below.drew ?_))⟩
set_option maxHeartbeats 2000000 in
theorem gd_nought (s : Bool) (c : Int) (g : Bool) (y : UInt8) (ys : List UInt8) (hd : ys.length < 100000) (hi : isd (y :: ys) = true) (hy : (y.toNat : Int) = 48) (e : Int) (w : World) :
    Calls Tryd.prog 25 #[PV c s g (y :: ys) e] w fun x w' => x = .returned (.bool false) ∧ Below w.heap.size w w' := by
  have htl := B_toList
  have hsm := cell_set_map
  have hsz : (B (y :: ys)).size = ys.length + 1 := B_size (y :: ys)
  have hsb := by_lt (l := y :: ys) (i := 0) (by rw [hsz]; omega)
  rw [by_zero] at hsb
  have hbd := y.toNat_lt
  have c34 := fun W => isd_any (y :: ys) W (by rw [List.length_cons]; omega)
  rw [hi] at c34
  unfold PV
  go_enter Tryd.func25, Tryd.ntmps25
  go_wp2_with (first | (go_at_call 34; refine (c34 _).mono ?_; rintro x w1 ⟨rfl, hb1⟩; obtain ⟨hc1, hf1⟩ := bcell hb1; have hz1_0 : w.heap.size < w1.heap.size := lt_below hb1 (by first | with_reducible assumption | (simp; done) | (simp; omega)); have hl1_0 := Nat.le_of_lt hz1_0; have hA1 := bnext (w0 := w) (by (repeat (first | with_reducible assumption | with_reducible exact Below.refl _ _ | with_reducible refine Below.setCell ?_ (by first | omega | (dsimp only; omega) | (simp <;> omega)) _ | with_reducible refine Below.alloc ?_ (by first | omega | (simp <;> omega)) _ | with_reducible refine Below.drew ?_))) hb1; have hs1 := hA1.size; clear hb1))
  go_ret
  exact ⟨rfl, by (repeat (first | with_reducible assumption | with_reducible exact Below.refl _ _ | with_reducible refine Below.setCell ?_ (by first | omega | (dsimp only; omega) | (simp <;> omega)) _ | with_reducible refine Below.alloc ?_ (by first | omega | (simp <;> omega)) _ | with_reducible refine Below.drew ?_))⟩
set_option maxHeartbeats 2000000 in
theorem gd_1sn (s : Bool) (e : Int) (w : World) :
    Calls Tryd.prog 25 #[PV 1 s true [] e] w fun x w' => x = .returned (.bool false) ∧ Below w.heap.size w w' := by
  have htl := B_toList
  have hsm := cell_set_map
  have hn0 : B [] = ⟨#[]⟩ := rfl
  unfold PV
  go_enter Tryd.func25, Tryd.ntmps25
  go_wp2
  go_ret
  exact ⟨rfl, by (repeat (first | with_reducible assumption | with_reducible exact Below.refl _ _ | with_reducible refine Below.setCell ?_ (by first | omega | (dsimp only; omega) | (simp <;> omega)) _ | with_reducible refine Below.alloc ?_ (by first | omega | (simp <;> omega)) _ | with_reducible refine Below.drew ?_))⟩
set_option maxHeartbeats 2000000 in
theorem gd_1ln (s : Bool) (e : Int) (he : e < -1000000000) (w : World) :
    Calls Tryd.prog 25 #[PV 1 s false [] e] w fun x w' => x = .returned (.bool false) ∧ Below w.heap.size w w' := by
  have htl := B_toList
  have hsm := cell_set_map
  have hn0 : B [] = ⟨#[]⟩ := rfl
  unfold PV
  go_enter Tryd.func25, Tryd.ntmps25
  go_wp2
  go_ret
  exact ⟨rfl, by (repeat (first | with_reducible assumption | with_reducible exact Below.refl _ _ | with_reducible refine Below.setCell ?_ (by first | omega | (dsimp only; omega) | (simp <;> omega)) _ | with_reducible refine Below.alloc ?_ (by first | omega | (simp <;> omega)) _ | with_reducible refine Below.drew ?_))⟩
set_option maxHeartbeats 2000000 in
theorem gd_1hn (s : Bool) (e : Int) (he1 : -1000000000 ≤ e) (he2 : 1000000000 < e) (w : World) :
    Calls Tryd.prog 25 #[PV 1 s false [] e] w fun x w' => x = .returned (.bool false) ∧ Below w.heap.size w w' := by
  have htl := B_toList
  have hsm := cell_set_map
  have hn0 : B [] = ⟨#[]⟩ := rfl
  unfold PV
  go_enter Tryd.func25, Tryd.ntmps25
  go_wp2
  go_ret
  exact ⟨rfl, by (repeat (first | with_reducible assumption | with_reducible exact Below.refl _ _ | with_reducible refine Below.setCell ?_ (by first | omega | (dsimp only; omega) | (simp <;> omega)) _ | with_reducible refine Below.alloc ?_ (by first | omega | (simp <;> omega)) _ | with_reducible refine Below.drew ?_))⟩
set_option maxHeartbeats 2000000 in
theorem gd_1yn (s : Bool) (e : Int) (he1 : -1000000000 ≤ e) (he2 : e ≤ 1000000000) (T : List UInt8) (hT : (T.length : Int) ≤ 4000) (w : World)
    (c26 : ∀ W, Below w.heap.size w W → Calls Tryd.prog 26 #[PV 1 s false [] e] W fun x w' => x = .returned (.string (B T)) ∧ Below W.heap.size W w') :
    Calls Tryd.prog 25 #[PV 1 s false [] e] w fun x w' => x = .returned (.bool true) ∧ Below w.heap.size w w' := by
  have htl := B_toList
  have hsm := cell_set_map
  have hn0 : B [] = ⟨#[]⟩ := rfl
  have hTz := B_size T
  unfold PV at c26
  unfold PV
  go_enter Tryd.func25, Tryd.ntmps25
  go_wp2_with (first | (go_at_call 26; refine (c26 _ (by (repeat (first | with_reducible assumption | with_reducible exact Below.refl _ _ | with_reducible refine Below.setCell ?_ (by first | omega | (dsimp only; omega) | (simp <;> omega)) _ | with_reducible refine Below.alloc ?_ (by first | omega | (simp <;> omega)) _ | with_reducible refine Below.drew ?_)))).mono ?_; rintro x w2 ⟨rfl, hb2⟩; obtain ⟨hc2, hf2⟩ := bcell hb2; have hz2_0 : w.heap.size < w2.heap.size := lt_below hb2 (by first | with_reducible assumption | (simp; done) | (simp; omega)); have hl2_0 := Nat.le_of_lt hz2_0; have hA2 := bnext (w0 := w) (by (repeat (first | with_reducible assumption | with_reducible exact Below.refl _ _ | with_reducible refine Below.setCell ?_ (by first | omega | (dsimp only; omega) | (simp <;> omega)) _ | with_reducible refine Below.alloc ?_ (by first | omega | (simp <;> omega)) _ | with_reducible refine Below.drew ?_))) hb2; have hs2 := hA2.size; clear hb2))
  go_ret
  exact ⟨rfl, by (repeat (first | with_reducible assumption | with_reducible exact Below.refl _ _ | with_reducible refine Below.setCell ?_ (by first | omega | (dsimp only; omega) | (simp <;> omega)) _ | with_reducible refine Below.alloc ?_ (by first | omega | (simp <;> omega)) _ | with_reducible refine Below.drew ?_))⟩
set_option maxHeartbeats 2000000 in
theorem gd_1tn (s : Bool) (e : Int) (he1 : -1000000000 ≤ e) (he2 : e ≤ 1000000000) (T : List UInt8) (hT : (4000 : Int) < T.length) (w : World)
    (c26 : ∀ W, Below w.heap.size w W → Calls Tryd.prog 26 #[PV 1 s false [] e] W fun x w' => x = .returned (.string (B T)) ∧ Below W.heap.size W w') :
    Calls Tryd.prog 25 #[PV 1 s false [] e] w fun x w' => x = .returned (.bool false) ∧ Below w.heap.size w w' := by
  have htl := B_toList
  have hsm := cell_set_map
  have hn0 : B [] = ⟨#[]⟩ := rfl
  have hTz := B_size T
  unfold PV at c26
  unfold PV
  go_enter Tryd.func25, Tryd.ntmps25
  go_wp2_with (first | (go_at_call 26; refine (c26 _ (by (repeat (first | with_reducible assumption | with_reducible exact Below.refl _ _ | with_reducible refine Below.setCell ?_ (by first | omega | (dsimp only; omega) | (simp <;> omega)) _ | with_reducible refine Below.alloc ?_ (by first | omega | (simp <;> omega)) _ | with_reducible refine Below.drew ?_)))).mono ?_; rintro x w2 ⟨rfl, hb2⟩; obtain ⟨hc2, hf2⟩ := bcell hb2; have hz2_0 : w.heap.size < w2.heap.size := lt_below hb2 (by first | with_reducible assumption | (simp; done) | (simp; omega)); have hl2_0 := Nat.le_of_lt hz2_0; have hA2 := bnext (w0 := w) (by (repeat (first | with_reducible assumption | with_reducible exact Below.refl _ _ | with_reducible refine Below.setCell ?_ (by first | omega | (dsimp only; omega) | (simp <;> omega)) _ | with_reducible refine Below.alloc ?_ (by first | omega | (simp <;> omega)) _ | with_reducible refine Below.drew ?_))) hb2; have hs2 := hA2.size; clear hb2))
  go_ret
  exact ⟨(show Ending.returned (Value.bool (decide ((T.length : Int) ≤ 4000))) = _ by rw [decide_eq_false (by omega)]), by (repeat (first | with_reducible assumption | with_reducible exact Below.refl _ _ | with_reducible refine Below.setCell ?_ (by first | omega | (dsimp only; omega) | (simp <;> omega)) _ | with_reducible refine Below.alloc ?_ (by first | omega | (simp <;> omega)) _ | with_reducible refine Below.drew ?_))⟩
set_option maxHeartbeats 2000000 in
theorem gd_2sn (s : Bool) (e : Int) (w : World) :
    Calls Tryd.prog 25 #[PV 2 s true [] e] w fun x w' => x = .returned (.bool false) ∧ Below w.heap.size w w' := by
  have htl := B_toList
  have hsm := cell_set_map
  have hn0 : B [] = ⟨#[]⟩ := rfl
  unfold PV
  go_enter Tryd.func25, Tryd.ntmps25
  go_wp2
  go_ret
  exact ⟨rfl, by (repeat (first | with_reducible assumption | with_reducible exact Below.refl _ _ | with_reducible refine Below.setCell ?_ (by first | omega | (dsimp only; omega) | (simp <;> omega)) _ | with_reducible refine Below.alloc ?_ (by first | omega | (simp <;> omega)) _ | with_reducible refine Below.drew ?_))⟩
set_option maxHeartbeats 2000000 in
theorem gd_2en (s : Bool) (e : Int) (he : (e == 0) = false) (w : World) :
    Calls Tryd.prog 25 #[PV 2 s false [] e] w fun x w' => x = .returned (.bool false) ∧ Below w.heap.size w w' := by
  have htl := B_toList
  have hsm := cell_set_map
  have hn0 : B [] = ⟨#[]⟩ := rfl
  unfold PV
  go_enter Tryd.func25, Tryd.ntmps25
  go_wp2
  go_ret
  exact ⟨rfl, by (repeat (first | with_reducible assumption | with_reducible exact Below.refl _ _ | with_reducible refine Below.setCell ?_ (by first | omega | (dsimp only; omega) | (simp <;> omega)) _ | with_reducible refine Below.alloc ?_ (by first | omega | (simp <;> omega)) _ | with_reducible refine Below.drew ?_))⟩
set_option maxHeartbeats 2000000 in
theorem gd_2yn (s : Bool)  (w : World) :
    Calls Tryd.prog 25 #[PV 2 s false [] 0] w fun x w' => x = .returned (.bool true) ∧ Below w.heap.size w w' := by
  have htl := B_toList
  have hsm := cell_set_map
  have hn0 : B [] = ⟨#[]⟩ := rfl
  unfold PV
  go_enter Tryd.func25, Tryd.ntmps25
  go_wp2
  go_ret
  exact ⟨rfl, by (repeat (first | with_reducible assumption | with_reducible exact Below.refl _ _ | with_reducible refine Below.setCell ?_ (by first | omega | (dsimp only; omega) | (simp <;> omega)) _ | with_reducible refine Below.alloc ?_ (by first | omega | (simp <;> omega)) _ | with_reducible refine Below.drew ?_))⟩
set_option maxHeartbeats 2000000 in
theorem gd_3en (s : Bool) (g : Bool) (e : Int) (he : (e == 0) = false) (w : World) :
    Calls Tryd.prog 25 #[PV 3 s g [] e] w fun x w' => x = .returned (.bool false) ∧ Below w.heap.size w w' := by
  have htl := B_toList
  have hsm := cell_set_map
  have hn0 : B [] = ⟨#[]⟩ := rfl
  unfold PV
  go_enter Tryd.func25, Tryd.ntmps25
  go_wp2
  go_ret
  exact ⟨rfl, by (repeat (first | with_reducible assumption | with_reducible exact Below.refl _ _ | with_reducible refine Below.setCell ?_ (by first | omega | (dsimp only; omega) | (simp <;> omega)) _ | with_reducible refine Below.alloc ?_ (by first | omega | (simp <;> omega)) _ | with_reducible refine Below.drew ?_))⟩
set_option maxHeartbeats 2000000 in
theorem gd_3yn (s : Bool) (g : Bool) (T : List UInt8) (hT : (T.length : Int) ≤ 4000) (w : World)
    (c26 : ∀ W, Below w.heap.size w W → Calls Tryd.prog 26 #[PV 3 s g [] 0] W fun x w' => x = .returned (.string (B T)) ∧ Below W.heap.size W w') :
    Calls Tryd.prog 25 #[PV 3 s g [] 0] w fun x w' => x = .returned (.bool true) ∧ Below w.heap.size w w' := by
  have htl := B_toList
  have hsm := cell_set_map
  have hn0 : B [] = ⟨#[]⟩ := rfl
  have hTz := B_size T
  unfold PV at c26
  unfold PV
  go_enter Tryd.func25, Tryd.ntmps25
  go_wp2_with (first | (go_at_call 26; refine (c26 _ (by (repeat (first | with_reducible assumption | with_reducible exact Below.refl _ _ | with_reducible refine Below.setCell ?_ (by first | omega | (dsimp only; omega) | (simp <;> omega)) _ | with_reducible refine Below.alloc ?_ (by first | omega | (simp <;> omega)) _ | with_reducible refine Below.drew ?_)))).mono ?_; rintro x w2 ⟨rfl, hb2⟩; obtain ⟨hc2, hf2⟩ := bcell hb2; have hz2_0 : w.heap.size < w2.heap.size := lt_below hb2 (by first | with_reducible assumption | (simp; done) | (simp; omega)); have hl2_0 := Nat.le_of_lt hz2_0; have hA2 := bnext (w0 := w) (by (repeat (first | with_reducible assumption | with_reducible exact Below.refl _ _ | with_reducible refine Below.setCell ?_ (by first | omega | (dsimp only; omega) | (simp <;> omega)) _ | with_reducible refine Below.alloc ?_ (by first | omega | (simp <;> omega)) _ | with_reducible refine Below.drew ?_))) hb2; have hs2 := hA2.size; clear hb2))
  go_ret
  exact ⟨rfl, by (repeat (first | with_reducible assumption | with_reducible exact Below.refl _ _ | with_reducible refine Below.setCell ?_ (by first | omega | (dsimp only; omega) | (simp <;> omega)) _ | with_reducible refine Below.alloc ?_ (by first | omega | (simp <;> omega)) _ | with_reducible refine Below.drew ?_))⟩
set_option maxHeartbeats 2000000 in
theorem gd_3tn (s : Bool) (g : Bool) (T : List UInt8) (hT : (4000 : Int) < T.length) (w : World)
    (c26 : ∀ W, Below w.heap.size w W → Calls Tryd.prog 26 #[PV 3 s g [] 0] W fun x w' => x = .returned (.string (B T)) ∧ Below W.heap.size W w') :
    Calls Tryd.prog 25 #[PV 3 s g [] 0] w fun x w' => x = .returned (.bool false) ∧ Below w.heap.size w w' := by
  have htl := B_toList
  have hsm := cell_set_map
  have hn0 : B [] = ⟨#[]⟩ := rfl
  have hTz := B_size T
  unfold PV at c26
  unfold PV
  go_enter Tryd.func25, Tryd.ntmps25
  go_wp2_with (first | (go_at_call 26; refine (c26 _ (by (repeat (first | with_reducible assumption | with_reducible exact Below.refl _ _ | with_reducible refine Below.setCell ?_ (by first | omega | (dsimp only; omega) | (simp <;> omega)) _ | with_reducible refine Below.alloc ?_ (by first | omega | (simp <;> omega)) _ | with_reducible refine Below.drew ?_)))).mono ?_; rintro x w2 ⟨rfl, hb2⟩; obtain ⟨hc2, hf2⟩ := bcell hb2; have hz2_0 : w.heap.size < w2.heap.size := lt_below hb2 (by first | with_reducible assumption | (simp; done) | (simp; omega)); have hl2_0 := Nat.le_of_lt hz2_0; have hA2 := bnext (w0 := w) (by (repeat (first | with_reducible assumption | with_reducible exact Below.refl _ _ | with_reducible refine Below.setCell ?_ (by first | omega | (dsimp only; omega) | (simp <;> omega)) _ | with_reducible refine Below.alloc ?_ (by first | omega | (simp <;> omega)) _ | with_reducible refine Below.drew ?_))) hb2; have hs2 := hA2.size; clear hb2))
  go_ret
  exact ⟨(show Ending.returned (Value.bool (decide ((T.length : Int) ≤ 4000))) = _ by rw [decide_eq_false (by omega)]), by (repeat (first | with_reducible assumption | with_reducible exact Below.refl _ _ | with_reducible refine Below.setCell ?_ (by first | omega | (dsimp only; omega) | (simp <;> omega)) _ | with_reducible refine Below.alloc ?_ (by first | omega | (simp <;> omega)) _ | with_reducible refine Below.drew ?_))⟩
set_option maxHeartbeats 2000000 in
theorem gd_cn (s : Bool) (c : Int) (h1 : (c == 1) = false) (h2 : (c == 2) = false) (h3 : (c == 3) = false) (g : Bool) (e : Int) (w : World) :
    Calls Tryd.prog 25 #[PV c s g [] e] w fun x w' => x = .returned (.bool false) ∧ Below w.heap.size w w' := by
  have htl := B_toList
  have hsm := cell_set_map
  have hn0 : B [] = ⟨#[]⟩ := rfl
  unfold PV
  go_enter Tryd.func25, Tryd.ntmps25
  go_wp2
  go_ret
  exact ⟨rfl, by (repeat (first | with_reducible assumption | with_reducible exact Below.refl _ _ | with_reducible refine Below.setCell ?_ (by first | omega | (dsimp only; omega) | (simp <;> omega)) _ | with_reducible refine Below.alloc ?_ (by first | omega | (simp <;> omega)) _ | with_reducible refine Below.drew ?_))⟩
set_option maxHeartbeats 2000000 in
theorem gd_1sg (s : Bool) (y : UInt8) (ys : List UInt8) (hd : ys.length < 100000) (hi : isd (y :: ys) = true) (hy : ((y.toNat : Int) == 48) = false) (e : Int) (w : World) :
    Calls Tryd.prog 25 #[PV 1 s true (y :: ys) e] w fun x w' => x = .returned (.bool false) ∧ Below w.heap.size w w' := by
  have htl := B_toList
  have hsm := cell_set_map
  have hsz : (B (y :: ys)).size = ys.length + 1 := B_size (y :: ys)
  have hsb := by_lt (l := y :: ys) (i := 0) (by rw [hsz]; omega)
  rw [by_zero] at hsb
  have hbd := y.toNat_lt
  have c34 := fun W => isd_any (y :: ys) W (by rw [List.length_cons]; omega)
  rw [hi] at c34
  unfold PV
  go_enter Tryd.func25, Tryd.ntmps25
  go_wp2_with (first | (go_at_call 34; refine (c34 _).mono ?_; rintro x w1 ⟨rfl, hb1⟩; obtain ⟨hc1, hf1⟩ := bcell hb1; have hz1_0 : w.heap.size < w1.heap.size := lt_below hb1 (by first | with_reducible assumption | (simp; done) | (simp; omega)); have hl1_0 := Nat.le_of_lt hz1_0; have hA1 := bnext (w0 := w) (by (repeat (first | with_reducible assumption | with_reducible exact Below.refl _ _ | with_reducible refine Below.setCell ?_ (by first | omega | (dsimp only; omega) | (simp <;> omega)) _ | with_reducible refine Below.alloc ?_ (by first | omega | (simp <;> omega)) _ | with_reducible refine Below.drew ?_))) hb1; have hs1 := hA1.size; clear hb1))
  go_ret
  exact ⟨rfl, by (repeat (first | with_reducible assumption | with_reducible exact Below.refl _ _ | with_reducible refine Below.setCell ?_ (by first | omega | (dsimp only; omega) | (simp <;> omega)) _ | with_reducible refine Below.alloc ?_ (by first | omega | (simp <;> omega)) _ | with_reducible refine Below.drew ?_))⟩
set_option maxHeartbeats 2000000 in
theorem gd_1lg (s : Bool) (y : UInt8) (ys : List UInt8) (hd : ys.length < 100000) (hi : isd (y :: ys) = true) (hy : ((y.toNat : Int) == 48) = false) (e : Int) (he : e < -1000000000) (w : World) :
    Calls Tryd.prog 25 #[PV 1 s false (y :: ys) e] w fun x w' => x = .returned (.bool false) ∧ Below w.heap.size w w' := by
  have htl := B_toList
  have hsm := cell_set_map
  have hsz : (B (y :: ys)).size = ys.length + 1 := B_size (y :: ys)
  have hsb := by_lt (l := y :: ys) (i := 0) (by rw [hsz]; omega)
  rw [by_zero] at hsb
  have hbd := y.toNat_lt
  have c34 := fun W => isd_any (y :: ys) W (by rw [List.length_cons]; omega)
  rw [hi] at c34
  unfold PV
  go_enter Tryd.func25, Tryd.ntmps25
  go_wp2_with (first | (go_at_call 34; refine (c34 _).mono ?_; rintro x w1 ⟨rfl, hb1⟩; obtain ⟨hc1, hf1⟩ := bcell hb1; have hz1_0 : w.heap.size < w1.heap.size := lt_below hb1 (by first | with_reducible assumption | (simp; done) | (simp; omega)); have hl1_0 := Nat.le_of_lt hz1_0; have hA1 := bnext (w0 := w) (by (repeat (first | with_reducible assumption | with_reducible exact Below.refl _ _ | with_reducible refine Below.setCell ?_ (by first | omega | (dsimp only; omega) | (simp <;> omega)) _ | with_reducible refine Below.alloc ?_ (by first | omega | (simp <;> omega)) _ | with_reducible refine Below.drew ?_))) hb1; have hs1 := hA1.size; clear hb1))
  go_ret
  exact ⟨rfl, by (repeat (first | with_reducible assumption | with_reducible exact Below.refl _ _ | with_reducible refine Below.setCell ?_ (by first | omega | (dsimp only; omega) | (simp <;> omega)) _ | with_reducible refine Below.alloc ?_ (by first | omega | (simp <;> omega)) _ | with_reducible refine Below.drew ?_))⟩
set_option maxHeartbeats 2000000 in
theorem gd_1hg (s : Bool) (y : UInt8) (ys : List UInt8) (hd : ys.length < 100000) (hi : isd (y :: ys) = true) (hy : ((y.toNat : Int) == 48) = false) (e : Int) (he1 : -1000000000 ≤ e) (he2 : 1000000000 < e) (w : World) :
    Calls Tryd.prog 25 #[PV 1 s false (y :: ys) e] w fun x w' => x = .returned (.bool false) ∧ Below w.heap.size w w' := by
  have htl := B_toList
  have hsm := cell_set_map
  have hsz : (B (y :: ys)).size = ys.length + 1 := B_size (y :: ys)
  have hsb := by_lt (l := y :: ys) (i := 0) (by rw [hsz]; omega)
  rw [by_zero] at hsb
  have hbd := y.toNat_lt
  have c34 := fun W => isd_any (y :: ys) W (by rw [List.length_cons]; omega)
  rw [hi] at c34
  unfold PV
  go_enter Tryd.func25, Tryd.ntmps25
  go_wp2_with (first | (go_at_call 34; refine (c34 _).mono ?_; rintro x w1 ⟨rfl, hb1⟩; obtain ⟨hc1, hf1⟩ := bcell hb1; have hz1_0 : w.heap.size < w1.heap.size := lt_below hb1 (by first | with_reducible assumption | (simp; done) | (simp; omega)); have hl1_0 := Nat.le_of_lt hz1_0; have hA1 := bnext (w0 := w) (by (repeat (first | with_reducible assumption | with_reducible exact Below.refl _ _ | with_reducible refine Below.setCell ?_ (by first | omega | (dsimp only; omega) | (simp <;> omega)) _ | with_reducible refine Below.alloc ?_ (by first | omega | (simp <;> omega)) _ | with_reducible refine Below.drew ?_))) hb1; have hs1 := hA1.size; clear hb1))
  go_ret
  exact ⟨rfl, by (repeat (first | with_reducible assumption | with_reducible exact Below.refl _ _ | with_reducible refine Below.setCell ?_ (by first | omega | (dsimp only; omega) | (simp <;> omega)) _ | with_reducible refine Below.alloc ?_ (by first | omega | (simp <;> omega)) _ | with_reducible refine Below.drew ?_))⟩
set_option maxHeartbeats 2000000 in
theorem gd_1yg (s : Bool) (y : UInt8) (ys : List UInt8) (hd : ys.length < 100000) (hi : isd (y :: ys) = true) (hy : ((y.toNat : Int) == 48) = false) (e : Int) (he1 : -1000000000 ≤ e) (he2 : e ≤ 1000000000) (T : List UInt8) (hT : (T.length : Int) ≤ 4000) (w : World)
    (c26 : ∀ W, Below w.heap.size w W → Calls Tryd.prog 26 #[PV 1 s false (y :: ys) e] W fun x w' => x = .returned (.string (B T)) ∧ Below W.heap.size W w') :
    Calls Tryd.prog 25 #[PV 1 s false (y :: ys) e] w fun x w' => x = .returned (.bool true) ∧ Below w.heap.size w w' := by
  have htl := B_toList
  have hsm := cell_set_map
  have hsz : (B (y :: ys)).size = ys.length + 1 := B_size (y :: ys)
  have hsb := by_lt (l := y :: ys) (i := 0) (by rw [hsz]; omega)
  rw [by_zero] at hsb
  have hbd := y.toNat_lt
  have c34 := fun W => isd_any (y :: ys) W (by rw [List.length_cons]; omega)
  rw [hi] at c34
  have hTz := B_size T
  unfold PV at c26
  unfold PV
  go_enter Tryd.func25, Tryd.ntmps25
  go_wp2_with (first | (go_at_call 34; refine (c34 _).mono ?_; rintro x w1 ⟨rfl, hb1⟩; obtain ⟨hc1, hf1⟩ := bcell hb1; have hz1_0 : w.heap.size < w1.heap.size := lt_below hb1 (by first | with_reducible assumption | (simp; done) | (simp; omega)); have hl1_0 := Nat.le_of_lt hz1_0; have hA1 := bnext (w0 := w) (by (repeat (first | with_reducible assumption | with_reducible exact Below.refl _ _ | with_reducible refine Below.setCell ?_ (by first | omega | (dsimp only; omega) | (simp <;> omega)) _ | with_reducible refine Below.alloc ?_ (by first | omega | (simp <;> omega)) _ | with_reducible refine Below.drew ?_))) hb1; have hs1 := hA1.size; clear hb1) | (go_at_call 26; refine (c26 _ (by (repeat (first | with_reducible assumption | with_reducible exact Below.refl _ _ | with_reducible refine Below.setCell ?_ (by first | omega | (dsimp only; omega) | (simp <;> omega)) _ | with_reducible refine Below.alloc ?_ (by first | omega | (simp <;> omega)) _ | with_reducible refine Below.drew ?_)))).mono ?_; rintro x w2 ⟨rfl, hb2⟩; obtain ⟨hc2, hf2⟩ := bcell hb2; have hz2_0 : w.heap.size < w2.heap.size := lt_below hb2 (by first | with_reducible assumption | (simp; done) | (simp; omega)); have hl2_0 := Nat.le_of_lt hz2_0; have hA2 := bnext (w0 := w) (by (repeat (first | with_reducible assumption | with_reducible exact Below.refl _ _ | with_reducible refine Below.setCell ?_ (by first | omega | (dsimp only; omega) | (simp <;> omega)) _ | with_reducible refine Below.alloc ?_ (by first | omega | (simp <;> omega)) _ | with_reducible refine Below.drew ?_))) hb2; have hs2 := hA2.size; clear hb2))
  go_ret
  exact ⟨rfl, by (repeat (first | with_reducible assumption | with_reducible exact Below.refl _ _ | with_reducible refine Below.setCell ?_ (by first | omega | (dsimp only; omega) | (simp <;> omega)) _ | with_reducible refine Below.alloc ?_ (by first | omega | (simp <;> omega)) _ | with_reducible refine Below.drew ?_))⟩
set_option maxHeartbeats 2000000 in
theorem gd_1tg (s : Bool) (y : UInt8) (ys : List UInt8) (hd : ys.length < 100000) (hi : isd (y :: ys) = true) (hy : ((y.toNat : Int) == 48) = false) (e : Int) (he1 : -1000000000 ≤ e) (he2 : e ≤ 1000000000) (T : List UInt8) (hT : (4000 : Int) < T.length) (w : World)
    (c26 : ∀ W, Below w.heap.size w W → Calls Tryd.prog 26 #[PV 1 s false (y :: ys) e] W fun x w' => x = .returned (.string (B T)) ∧ Below W.heap.size W w') :
    Calls Tryd.prog 25 #[PV 1 s false (y :: ys) e] w fun x w' => x = .returned (.bool false) ∧ Below w.heap.size w w' := by
  have htl := B_toList
  have hsm := cell_set_map
  have hsz : (B (y :: ys)).size = ys.length + 1 := B_size (y :: ys)
  have hsb := by_lt (l := y :: ys) (i := 0) (by rw [hsz]; omega)
  rw [by_zero] at hsb
  have hbd := y.toNat_lt
  have c34 := fun W => isd_any (y :: ys) W (by rw [List.length_cons]; omega)
  rw [hi] at c34
  have hTz := B_size T
  unfold PV at c26
  unfold PV
  go_enter Tryd.func25, Tryd.ntmps25
  go_wp2_with (first | (go_at_call 34; refine (c34 _).mono ?_; rintro x w1 ⟨rfl, hb1⟩; obtain ⟨hc1, hf1⟩ := bcell hb1; have hz1_0 : w.heap.size < w1.heap.size := lt_below hb1 (by first | with_reducible assumption | (simp; done) | (simp; omega)); have hl1_0 := Nat.le_of_lt hz1_0; have hA1 := bnext (w0 := w) (by (repeat (first | with_reducible assumption | with_reducible exact Below.refl _ _ | with_reducible refine Below.setCell ?_ (by first | omega | (dsimp only; omega) | (simp <;> omega)) _ | with_reducible refine Below.alloc ?_ (by first | omega | (simp <;> omega)) _ | with_reducible refine Below.drew ?_))) hb1; have hs1 := hA1.size; clear hb1) | (go_at_call 26; refine (c26 _ (by (repeat (first | with_reducible assumption | with_reducible exact Below.refl _ _ | with_reducible refine Below.setCell ?_ (by first | omega | (dsimp only; omega) | (simp <;> omega)) _ | with_reducible refine Below.alloc ?_ (by first | omega | (simp <;> omega)) _ | with_reducible refine Below.drew ?_)))).mono ?_; rintro x w2 ⟨rfl, hb2⟩; obtain ⟨hc2, hf2⟩ := bcell hb2; have hz2_0 : w.heap.size < w2.heap.size := lt_below hb2 (by first | with_reducible assumption | (simp; done) | (simp; omega)); have hl2_0 := Nat.le_of_lt hz2_0; have hA2 := bnext (w0 := w) (by (repeat (first | with_reducible assumption | with_reducible exact Below.refl _ _ | with_reducible refine Below.setCell ?_ (by first | omega | (dsimp only; omega) | (simp <;> omega)) _ | with_reducible refine Below.alloc ?_ (by first | omega | (simp <;> omega)) _ | with_reducible refine Below.drew ?_))) hb2; have hs2 := hA2.size; clear hb2))
  go_ret
  exact ⟨(show Ending.returned (Value.bool (decide ((T.length : Int) ≤ 4000))) = _ by rw [decide_eq_false (by omega)]), by (repeat (first | with_reducible assumption | with_reducible exact Below.refl _ _ | with_reducible refine Below.setCell ?_ (by first | omega | (dsimp only; omega) | (simp <;> omega)) _ | with_reducible refine Below.alloc ?_ (by first | omega | (simp <;> omega)) _ | with_reducible refine Below.drew ?_))⟩
set_option maxHeartbeats 2000000 in
theorem gd_2sg (s : Bool) (y : UInt8) (ys : List UInt8) (hd : ys.length < 100000) (hi : isd (y :: ys) = true) (hy : ((y.toNat : Int) == 48) = false) (e : Int) (w : World) :
    Calls Tryd.prog 25 #[PV 2 s true (y :: ys) e] w fun x w' => x = .returned (.bool false) ∧ Below w.heap.size w w' := by
  have htl := B_toList
  have hsm := cell_set_map
  have hsz : (B (y :: ys)).size = ys.length + 1 := B_size (y :: ys)
  have hsb := by_lt (l := y :: ys) (i := 0) (by rw [hsz]; omega)
  rw [by_zero] at hsb
  have hbd := y.toNat_lt
  have c34 := fun W => isd_any (y :: ys) W (by rw [List.length_cons]; omega)
  rw [hi] at c34
  unfold PV
  go_enter Tryd.func25, Tryd.ntmps25
  go_wp2_with (first | (go_at_call 34; refine (c34 _).mono ?_; rintro x w1 ⟨rfl, hb1⟩; obtain ⟨hc1, hf1⟩ := bcell hb1; have hz1_0 : w.heap.size < w1.heap.size := lt_below hb1 (by first | with_reducible assumption | (simp; done) | (simp; omega)); have hl1_0 := Nat.le_of_lt hz1_0; have hA1 := bnext (w0 := w) (by (repeat (first | with_reducible assumption | with_reducible exact Below.refl _ _ | with_reducible refine Below.setCell ?_ (by first | omega | (dsimp only; omega) | (simp <;> omega)) _ | with_reducible refine Below.alloc ?_ (by first | omega | (simp <;> omega)) _ | with_reducible refine Below.drew ?_))) hb1; have hs1 := hA1.size; clear hb1))
  go_ret
  exact ⟨rfl, by (repeat (first | with_reducible assumption | with_reducible exact Below.refl _ _ | with_reducible refine Below.setCell ?_ (by first | omega | (dsimp only; omega) | (simp <;> omega)) _ | with_reducible refine Below.alloc ?_ (by first | omega | (simp <;> omega)) _ | with_reducible refine Below.drew ?_))⟩
set_option maxHeartbeats 2000000 in
theorem gd_2dg (s : Bool) (y : UInt8) (ys : List UInt8) (hd : ys.length < 100000) (hi : isd (y :: ys) = true) (hy : ((y.toNat : Int) == 48) = false) (e : Int) (w : World) :
    Calls Tryd.prog 25 #[PV 2 s false (y :: ys) e] w fun x w' => x = .returned (.bool false) ∧ Below w.heap.size w w' := by
  have htl := B_toList
  have hsm := cell_set_map
  have hsz : (B (y :: ys)).size = ys.length + 1 := B_size (y :: ys)
  have hsb := by_lt (l := y :: ys) (i := 0) (by rw [hsz]; omega)
  rw [by_zero] at hsb
  have hbd := y.toNat_lt
  have c34 := fun W => isd_any (y :: ys) W (by rw [List.length_cons]; omega)
  rw [hi] at c34
  unfold PV
  go_enter Tryd.func25, Tryd.ntmps25
  go_wp2_with (first | (go_at_call 34; refine (c34 _).mono ?_; rintro x w1 ⟨rfl, hb1⟩; obtain ⟨hc1, hf1⟩ := bcell hb1; have hz1_0 : w.heap.size < w1.heap.size := lt_below hb1 (by first | with_reducible assumption | (simp; done) | (simp; omega)); have hl1_0 := Nat.le_of_lt hz1_0; have hA1 := bnext (w0 := w) (by (repeat (first | with_reducible assumption | with_reducible exact Below.refl _ _ | with_reducible refine Below.setCell ?_ (by first | omega | (dsimp only; omega) | (simp <;> omega)) _ | with_reducible refine Below.alloc ?_ (by first | omega | (simp <;> omega)) _ | with_reducible refine Below.drew ?_))) hb1; have hs1 := hA1.size; clear hb1))
  go_ret
  exact ⟨rfl, by (repeat (first | with_reducible assumption | with_reducible exact Below.refl _ _ | with_reducible refine Below.setCell ?_ (by first | omega | (dsimp only; omega) | (simp <;> omega)) _ | with_reducible refine Below.alloc ?_ (by first | omega | (simp <;> omega)) _ | with_reducible refine Below.drew ?_))⟩
set_option maxHeartbeats 2000000 in
theorem gd_3eg (s : Bool) (g : Bool) (y : UInt8) (ys : List UInt8) (hd : ys.length < 100000) (hi : isd (y :: ys) = true) (hy : ((y.toNat : Int) == 48) = false) (e : Int) (he : (e == 0) = false) (w : World) :
    Calls Tryd.prog 25 #[PV 3 s g (y :: ys) e] w fun x w' => x = .returned (.bool false) ∧ Below w.heap.size w w' := by
  have htl := B_toList
  have hsm := cell_set_map
  have hsz : (B (y :: ys)).size = ys.length + 1 := B_size (y :: ys)
  have hsb := by_lt (l := y :: ys) (i := 0) (by rw [hsz]; omega)
  rw [by_zero] at hsb
  have hbd := y.toNat_lt
  have c34 := fun W => isd_any (y :: ys) W (by rw [List.length_cons]; omega)
  rw [hi] at c34
  unfold PV
  go_enter Tryd.func25, Tryd.ntmps25
  go_wp2_with (first | (go_at_call 34; refine (c34 _).mono ?_; rintro x w1 ⟨rfl, hb1⟩; obtain ⟨hc1, hf1⟩ := bcell hb1; have hz1_0 : w.heap.size < w1.heap.size := lt_below hb1 (by first | with_reducible assumption | (simp; done) | (simp; omega)); have hl1_0 := Nat.le_of_lt hz1_0; have hA1 := bnext (w0 := w) (by (repeat (first | with_reducible assumption | with_reducible exact Below.refl _ _ | with_reducible refine Below.setCell ?_ (by first | omega | (dsimp only; omega) | (simp <;> omega)) _ | with_reducible refine Below.alloc ?_ (by first | omega | (simp <;> omega)) _ | with_reducible refine Below.drew ?_))) hb1; have hs1 := hA1.size; clear hb1))
  go_ret
  exact ⟨rfl, by (repeat (first | with_reducible assumption | with_reducible exact Below.refl _ _ | with_reducible refine Below.setCell ?_ (by first | omega | (dsimp only; omega) | (simp <;> omega)) _ | with_reducible refine Below.alloc ?_ (by first | omega | (simp <;> omega)) _ | with_reducible refine Below.drew ?_))⟩
set_option maxHeartbeats 2000000 in
theorem gd_3yg (s : Bool) (g : Bool) (y : UInt8) (ys : List UInt8) (hd : ys.length < 100000) (hi : isd (y :: ys) = true) (hy : ((y.toNat : Int) == 48) = false) (T : List UInt8) (hT : (T.length : Int) ≤ 4000) (w : World)
    (c26 : ∀ W, Below w.heap.size w W → Calls Tryd.prog 26 #[PV 3 s g (y :: ys) 0] W fun x w' => x = .returned (.string (B T)) ∧ Below W.heap.size W w') :
    Calls Tryd.prog 25 #[PV 3 s g (y :: ys) 0] w fun x w' => x = .returned (.bool true) ∧ Below w.heap.size w w' := by
  have htl := B_toList
  have hsm := cell_set_map
  have hsz : (B (y :: ys)).size = ys.length + 1 := B_size (y :: ys)
  have hsb := by_lt (l := y :: ys) (i := 0) (by rw [hsz]; omega)
  rw [by_zero] at hsb
  have hbd := y.toNat_lt
  have c34 := fun W => isd_any (y :: ys) W (by rw [List.length_cons]; omega)
  rw [hi] at c34
  have hTz := B_size T
  unfold PV at c26
  unfold PV
  go_enter Tryd.func25, Tryd.ntmps25
  go_wp2_with (first | (go_at_call 34; refine (c34 _).mono ?_; rintro x w1 ⟨rfl, hb1⟩; obtain ⟨hc1, hf1⟩ := bcell hb1; have hz1_0 : w.heap.size < w1.heap.size := lt_below hb1 (by first | with_reducible assumption | (simp; done) | (simp; omega)); have hl1_0 := Nat.le_of_lt hz1_0; have hA1 := bnext (w0 := w) (by (repeat (first | with_reducible assumption | with_reducible exact Below.refl _ _ | with_reducible refine Below.setCell ?_ (by first | omega | (dsimp only; omega) | (simp <;> omega)) _ | with_reducible refine Below.alloc ?_ (by first | omega | (simp <;> omega)) _ | with_reducible refine Below.drew ?_))) hb1; have hs1 := hA1.size; clear hb1) | (go_at_call 26; refine (c26 _ (by (repeat (first | with_reducible assumption | with_reducible exact Below.refl _ _ | with_reducible refine Below.setCell ?_ (by first | omega | (dsimp only; omega) | (simp <;> omega)) _ | with_reducible refine Below.alloc ?_ (by first | omega | (simp <;> omega)) _ | with_reducible refine Below.drew ?_)))).mono ?_; rintro x w2 ⟨rfl, hb2⟩; obtain ⟨hc2, hf2⟩ := bcell hb2; have hz2_0 : w.heap.size < w2.heap.size := lt_below hb2 (by first | with_reducible assumption | (simp; done) | (simp; omega)); have hl2_0 := Nat.le_of_lt hz2_0; have hA2 := bnext (w0 := w) (by (repeat (first | with_reducible assumption | with_reducible exact Below.refl _ _ | with_reducible refine Below.setCell ?_ (by first | omega | (dsimp only; omega) | (simp <;> omega)) _ | with_reducible refine Below.alloc ?_ (by first | omega | (simp <;> omega)) _ | with_reducible refine Below.drew ?_))) hb2; have hs2 := hA2.size; clear hb2))
  go_ret
  exact ⟨rfl, by (repeat (first | with_reducible assumption | with_reducible exact Below.refl _ _ | with_reducible refine Below.setCell ?_ (by first | omega | (dsimp only; omega) | (simp <;> omega)) _ | with_reducible refine Below.alloc ?_ (by first | omega | (simp <;> omega)) _ | with_reducible refine Below.drew ?_))⟩
set_option maxHeartbeats 2000000 in
theorem gd_3tg (s : Bool) (g : Bool) (y : UInt8) (ys : List UInt8) (hd : ys.length < 100000) (hi : isd (y :: ys) = true) (hy : ((y.toNat : Int) == 48) = false) (T : List UInt8) (hT : (4000 : Int) < T.length) (w : World)
    (c26 : ∀ W, Below w.heap.size w W → Calls Tryd.prog 26 #[PV 3 s g (y :: ys) 0] W fun x w' => x = .returned (.string (B T)) ∧ Below W.heap.size W w') :
    Calls Tryd.prog 25 #[PV 3 s g (y :: ys) 0] w fun x w' => x = .returned (.bool false) ∧ Below w.heap.size w w' := by
  have htl := B_toList
  have hsm := cell_set_map
  have hsz : (B (y :: ys)).size = ys.length + 1 := B_size (y :: ys)
  have hsb := by_lt (l := y :: ys) (i := 0) (by rw [hsz]; omega)
  rw [by_zero] at hsb
  have hbd := y.toNat_lt
  have c34 := fun W => isd_any (y :: ys) W (by rw [List.length_cons]; omega)
  rw [hi] at c34
  have hTz := B_size T
  unfold PV at c26
  unfold PV
  go_enter Tryd.func25, Tryd.ntmps25
  go_wp2_with (first | (go_at_call 34; refine (c34 _).mono ?_; rintro x w1 ⟨rfl, hb1⟩; obtain ⟨hc1, hf1⟩ := bcell hb1; have hz1_0 : w.heap.size < w1.heap.size := lt_below hb1 (by first | with_reducible assumption | (simp; done) | (simp; omega)); have hl1_0 := Nat.le_of_lt hz1_0; have hA1 := bnext (w0 := w) (by (repeat (first | with_reducible assumption | with_reducible exact Below.refl _ _ | with_reducible refine Below.setCell ?_ (by first | omega | (dsimp only; omega) | (simp <;> omega)) _ | with_reducible refine Below.alloc ?_ (by first | omega | (simp <;> omega)) _ | with_reducible refine Below.drew ?_))) hb1; have hs1 := hA1.size; clear hb1) | (go_at_call 26; refine (c26 _ (by (repeat (first | with_reducible assumption | with_reducible exact Below.refl _ _ | with_reducible refine Below.setCell ?_ (by first | omega | (dsimp only; omega) | (simp <;> omega)) _ | with_reducible refine Below.alloc ?_ (by first | omega | (simp <;> omega)) _ | with_reducible refine Below.drew ?_)))).mono ?_; rintro x w2 ⟨rfl, hb2⟩; obtain ⟨hc2, hf2⟩ := bcell hb2; have hz2_0 : w.heap.size < w2.heap.size := lt_below hb2 (by first | with_reducible assumption | (simp; done) | (simp; omega)); have hl2_0 := Nat.le_of_lt hz2_0; have hA2 := bnext (w0 := w) (by (repeat (first | with_reducible assumption | with_reducible exact Below.refl _ _ | with_reducible refine Below.setCell ?_ (by first | omega | (dsimp only; omega) | (simp <;> omega)) _ | with_reducible refine Below.alloc ?_ (by first | omega | (simp <;> omega)) _ | with_reducible refine Below.drew ?_))) hb2; have hs2 := hA2.size; clear hb2))
  go_ret
  exact ⟨(show Ending.returned (Value.bool (decide ((T.length : Int) ≤ 4000))) = _ by rw [decide_eq_false (by omega)]), by (repeat (first | with_reducible assumption | with_reducible exact Below.refl _ _ | with_reducible refine Below.setCell ?_ (by first | omega | (dsimp only; omega) | (simp <;> omega)) _ | with_reducible refine Below.alloc ?_ (by first | omega | (simp <;> omega)) _ | with_reducible refine Below.drew ?_))⟩
set_option maxHeartbeats 2000000 in
theorem gd_cg (s : Bool) (c : Int) (h1 : (c == 1) = false) (h2 : (c == 2) = false) (h3 : (c == 3) = false) (g : Bool) (y : UInt8) (ys : List UInt8) (hd : ys.length < 100000) (hi : isd (y :: ys) = true) (hy : ((y.toNat : Int) == 48) = false) (e : Int) (w : World) :
    Calls Tryd.prog 25 #[PV c s g (y :: ys) e] w fun x w' => x = .returned (.bool false) ∧ Below w.heap.size w w' := by
  have htl := B_toList
  have hsm := cell_set_map
  have hsz : (B (y :: ys)).size = ys.length + 1 := B_size (y :: ys)
  have hsb := by_lt (l := y :: ys) (i := 0) (by rw [hsz]; omega)
  rw [by_zero] at hsb
  have hbd := y.toNat_lt
  have c34 := fun W => isd_any (y :: ys) W (by rw [List.length_cons]; omega)
  rw [hi] at c34
  unfold PV
  go_enter Tryd.func25, Tryd.ntmps25
  go_wp2_with (first | (go_at_call 34; refine (c34 _).mono ?_; rintro x w1 ⟨rfl, hb1⟩; obtain ⟨hc1, hf1⟩ := bcell hb1; have hz1_0 : w.heap.size < w1.heap.size := lt_below hb1 (by first | with_reducible assumption | (simp; done) | (simp; omega)); have hl1_0 := Nat.le_of_lt hz1_0; have hA1 := bnext (w0 := w) (by (repeat (first | with_reducible assumption | with_reducible exact Below.refl _ _ | with_reducible refine Below.setCell ?_ (by first | omega | (dsimp only; omega) | (simp <;> omega)) _ | with_reducible refine Below.alloc ?_ (by first | omega | (simp <;> omega)) _ | with_reducible refine Below.drew ?_))) hb1; have hs1 := hA1.size; clear hb1))
  go_ret
  exact ⟨rfl, by (repeat (first | with_reducible assumption | with_reducible exact Below.refl _ _ | with_reducible refine Below.setCell ?_ (by first | omega | (dsimp only; omega) | (simp <;> omega)) _ | with_reducible refine Below.alloc ?_ (by first | omega | (simp <;> omega)) _ | with_reducible refine Below.drew ?_))⟩
theorem head_ne {y : UInt8} {ys : List UInt8} (h : by_ (y :: ys) 0 ≠ 48) : ((y.toNat : Int) == 48) = false := by
  rw [by_zero] at h; exact beq_eq_false_iff_ne.2 h
theorem good_y (p : Prt) (w : World) (hd : p.dig.length < 100000) (he : -9223372036854775808 ≤ p.ex ∧ p.ex ≤ 9223372036854775807) (hT : Tb10 w) (h : gdP p) :
    Calls Tryd.prog 25 #[p.v] w fun x w' => x = .returned (.bool true) ∧ Below w.heap.size w w' := by
  have c26 := fun W (hb : Below w.heap.size w W) => rtext_any p.cls p.sg p.sn p.dig p.ex W hd he (hT.next hb)
  obtain ⟨c, s, g, d, e⟩ := p
  obtain ⟨hg, h⟩ := h
  show Calls Tryd.prog 25 #[PV c s g d e] w _
  dsimp only at c26 hd he hg h
  cases d with
  | nil =>
    rcases h with ⟨rfl, rfl, h3, h4⟩ | ⟨rfl, rfl, _, rfl⟩ | ⟨rfl, rfl, h4⟩
    · exact gd_1yn s e h3.1 h3.2 _ (by omega) w c26
    · exact gd_2yn s w
    · exact gd_3yn s g _ (by omega) w c26
  | cons y ys =>
    have hx : ys.length < 100000 := by rw [List.length_cons] at hd; omega
    rcases hg with hg | ⟨hi, hy⟩
    · cases hg
    · rcases h with ⟨rfl, rfl, h3, h4⟩ | ⟨rfl, rfl, h3, rfl⟩ | ⟨rfl, rfl, h4⟩
      · exact gd_1yg s y ys hx hi (head_ne hy) e h3.1 h3.2 _ (by omega) w c26
      · cases h3
      · exact gd_3yg s g y ys hx hi (head_ne hy) _ (by omega) w c26
theorem good_n (p : Prt) (w : World) (hd : p.dig.length < 100000) (he : -9223372036854775808 ≤ p.ex ∧ p.ex ≤ 9223372036854775807) (hT : Tb10 w) (h : ¬ gdP p) :
    Calls Tryd.prog 25 #[p.v] w fun x w' => x = .returned (.bool false) ∧ Below w.heap.size w w' := by
  have c26 := fun W (hb : Below w.heap.size w W) => rtext_any p.cls p.sg p.sn p.dig p.ex W hd he (hT.next hb)
  obtain ⟨c, s, g, d, e⟩ := p
  unfold gdP at h
  show Calls Tryd.prog 25 #[PV c s g d e] w _
  dsimp only at c26 hd he h
  cases d with
  | nil =>
    have hg : gdD [] := Or.inl rfl
    by_cases h1 : c = 1
    · subst h1
      cases g with
      | true => exact gd_1sn s e w
      | false =>
        by_cases e1 : -1000000000 ≤ e
        · by_cases e2 : e ≤ 1000000000
          · refine gd_1tn s e e1 e2 _ ?_ w c26
            by_cases h4 : (texT 1 s false [] e).length ≤ 4000
            · exact absurd ⟨hg, Or.inl ⟨rfl, rfl, ⟨e1, e2⟩, h4⟩⟩ h
            · omega
          · exact gd_1hn s e e1 (by omega) w
        · exact gd_1ln s e (by omega) w
    · by_cases h2 : c = 2
      · subst h2
        cases g with
        | true => exact gd_2sn s e w
        | false =>
          refine gd_2en s e (beq_eq_false_iff_ne.2 fun h0 => ?_) w
          exact absurd ⟨hg, Or.inr (Or.inl ⟨rfl, rfl, rfl, h0⟩)⟩ h
      · by_cases h3 : c = 3
        · subst h3
          by_cases h0 : e = 0
          · subst h0
            refine gd_3tn s g _ ?_ w c26
            by_cases h4 : (texT 3 s g [] 0).length ≤ 4000
            · exact absurd ⟨hg, Or.inr (Or.inr ⟨rfl, rfl, h4⟩)⟩ h
            · omega
          · exact gd_3en s g e (beq_eq_false_iff_ne.2 h0) w
        · exact gd_cn s c (beq_eq_false_iff_ne.2 h1) (beq_eq_false_iff_ne.2 h2) (beq_eq_false_iff_ne.2 h3) g e w
  | cons y ys =>
    have hx : ys.length < 100000 := by rw [List.length_cons] at hd; omega
    cases hi : isd (y :: ys) with
    | false => exact gd_bad s c g y ys hx hi e w
    | true =>
      by_cases hy0 : (y.toNat : Int) = 48
      · exact gd_nought s c g y ys hx hi hy0 e w
      · have hy := beq_eq_false_iff_ne.2 hy0
        have hg : gdD (y :: ys) := Or.inr ⟨hi, by rw [by_zero]; exact hy0⟩
        by_cases h1 : c = 1
        · subst h1
          cases g with
          | true => exact gd_1sg s y ys hx hi hy e w
          | false =>
            by_cases e1 : -1000000000 ≤ e
            · by_cases e2 : e ≤ 1000000000
              · refine gd_1tg s y ys hx hi hy e e1 e2 _ ?_ w c26
                by_cases h4 : (texT 1 s false (y :: ys) e).length ≤ 4000
                · exact absurd ⟨hg, Or.inl ⟨rfl, rfl, ⟨e1, e2⟩, h4⟩⟩ h
                · omega
              · exact gd_1hg s y ys hx hi hy e e1 (by omega) w
            · exact gd_1lg s y ys hx hi hy e (by omega) w
        · by_cases h2 : c = 2
          · subst h2
            cases g with
            | true => exact gd_2sg s y ys hx hi hy e w
            | false => exact gd_2dg s y ys hx hi hy e w
          · by_cases h3 : c = 3
            · subst h3
              by_cases h0 : e = 0
              · subst h0
                refine gd_3tg s g y ys hx hi hy _ ?_ w c26
                by_cases h4 : (texT 3 s g (y :: ys) 0).length ≤ 4000
                · exact absurd ⟨hg, Or.inr (Or.inr ⟨rfl, rfl, h4⟩)⟩ h
                · omega
              · exact gd_3eg s g y ys hx hi hy e (beq_eq_false_iff_ne.2 h0) w
            · exact gd_cg s c (beq_eq_false_iff_ne.2 h1) (beq_eq_false_iff_ne.2 h2) (beq_eq_false_iff_ne.2 h3) g y ys hx hi hy e w
set_option maxHeartbeats 2000000 in
theorem rjoin_y0 (c : Int) (s g : Bool) (d : List UInt8) (e : Int) (w : World) (T : List UInt8)
    (c25 : ∀ W, Below w.heap.size w W → Calls Tryd.prog 25 #[PV c s g d e] W fun x w' => x = .returned (.bool true) ∧ Below W.heap.size W w')
    (c26 : ∀ W, Below w.heap.size w W → Calls Tryd.prog 26 #[PV c s g d e] W fun x w' => x = .returned (.string (B T)) ∧ Below W.heap.size W w') :
    Calls Tryd.prog 14 #[PV c s g d e] w fun x w' => x = .returned (.tuple #[.string (B T), .int .i64 0]) ∧ Below w.heap.size w w' := by
  have htl := B_toList
  have hsm := cell_set_map
  unfold PV at c25 c26 ⊢
  go_enter Tryd.func14, Tryd.ntmps14
  go_wp2_with (first | (go_at_call 25; refine (c25 _ (by (repeat (first | with_reducible assumption | with_reducible exact Below.refl _ _ | with_reducible refine Below.setCell ?_ (by first | omega | (dsimp only; omega) | (simp <;> omega)) _ | with_reducible refine Below.alloc ?_ (by first | omega | (simp <;> omega)) _ | with_reducible refine Below.drew ?_)))).mono ?_; rintro x w1 ⟨rfl, hb1⟩; obtain ⟨hc1, hf1⟩ := bcell hb1; have hz1_0 : w.heap.size < w1.heap.size := lt_below hb1 (by first | with_reducible assumption | (simp; done) | (simp; omega)); have hl1_0 := Nat.le_of_lt hz1_0; have hA1 := bnext (w0 := w) (by (repeat (first | with_reducible assumption | with_reducible exact Below.refl _ _ | with_reducible refine Below.setCell ?_ (by first | omega | (dsimp only; omega) | (simp <;> omega)) _ | with_reducible refine Below.alloc ?_ (by first | omega | (simp <;> omega)) _ | with_reducible refine Below.drew ?_))) hb1; have hs1 := hA1.size; clear hb1) | (go_at_call 26; refine (c26 _ (by (repeat (first | with_reducible assumption | with_reducible exact Below.refl _ _ | with_reducible refine Below.setCell ?_ (by first | omega | (dsimp only; omega) | (simp <;> omega)) _ | with_reducible refine Below.alloc ?_ (by first | omega | (simp <;> omega)) _ | with_reducible refine Below.drew ?_)))).mono ?_; rintro x w2 ⟨rfl, hb2⟩; obtain ⟨hc2, hf2⟩ := bcell hb2; have hz2_0 : w.heap.size < w2.heap.size := lt_below hb2 (by first | with_reducible assumption | (simp; done) | (simp; omega)); have hl2_0 := Nat.le_of_lt hz2_0; have hA2 := bnext (w0 := w) (by (repeat (first | with_reducible assumption | with_reducible exact Below.refl _ _ | with_reducible refine Below.setCell ?_ (by first | omega | (dsimp only; omega) | (simp <;> omega)) _ | with_reducible refine Below.alloc ?_ (by first | omega | (simp <;> omega)) _ | with_reducible refine Below.drew ?_))) hb2; have hs2 := hA2.size; clear hb2))
  go_ret2
  exact ⟨rfl, by (repeat (first | with_reducible assumption | with_reducible exact Below.refl _ _ | with_reducible refine Below.setCell ?_ (by first | omega | (dsimp only; omega) | (simp <;> omega)) _ | with_reducible refine Below.alloc ?_ (by first | omega | (simp <;> omega)) _ | with_reducible refine Below.drew ?_))⟩
set_option maxHeartbeats 2000000 in
theorem rjoin_n0 (c : Int) (s g : Bool) (d : List UInt8) (e : Int) (w : World)
    (c25 : ∀ W, Below w.heap.size w W → Calls Tryd.prog 25 #[PV c s g d e] W fun x w' => x = .returned (.bool false) ∧ Below W.heap.size W w') :
    Calls Tryd.prog 14 #[PV c s g d e] w fun x w' => x = .returned (.tuple #[.string (B []), .int .i64 1]) ∧ Below w.heap.size w w' := by
  have htl := B_toList
  have hsm := cell_set_map
  have hn0 : B [] = ⟨#[]⟩ := rfl
  unfold PV at c25 ⊢
  go_enter Tryd.func14, Tryd.ntmps14
  go_wp2_with (first | (go_at_call 25; refine (c25 _ (by (repeat (first | with_reducible assumption | with_reducible exact Below.refl _ _ | with_reducible refine Below.setCell ?_ (by first | omega | (dsimp only; omega) | (simp <;> omega)) _ | with_reducible refine Below.alloc ?_ (by first | omega | (simp <;> omega)) _ | with_reducible refine Below.drew ?_)))).mono ?_; rintro x w1 ⟨rfl, hb1⟩; obtain ⟨hc1, hf1⟩ := bcell hb1; have hz1_0 : w.heap.size < w1.heap.size := lt_below hb1 (by first | with_reducible assumption | (simp; done) | (simp; omega)); have hl1_0 := Nat.le_of_lt hz1_0; have hA1 := bnext (w0 := w) (by (repeat (first | with_reducible assumption | with_reducible exact Below.refl _ _ | with_reducible refine Below.setCell ?_ (by first | omega | (dsimp only; omega) | (simp <;> omega)) _ | with_reducible refine Below.alloc ?_ (by first | omega | (simp <;> omega)) _ | with_reducible refine Below.drew ?_))) hb1; have hs1 := hA1.size; clear hb1))
  go_ret2
  exact ⟨rfl, by (repeat (first | with_reducible assumption | with_reducible exact Below.refl _ _ | with_reducible refine Below.setCell ?_ (by first | omega | (dsimp only; omega) | (simp <;> omega)) _ | with_reducible refine Below.alloc ?_ (by first | omega | (simp <;> omega)) _ | with_reducible refine Below.drew ?_))⟩
theorem rjoin_y (p : Prt) (w : World) (hd : p.dig.length < 100000) (he : -9223372036854775808 ≤ p.ex ∧ p.ex ≤ 9223372036854775807) (hT : Tb10 w) (h : gdP p) :
    Calls Tryd.prog 14 #[p.v] w fun x w' => x = .returned (.tuple #[.string (B (texT p.cls p.sg p.sn p.dig p.ex)), .int .i64 0]) ∧ Below w.heap.size w w' :=
  rjoin_y0 _ _ _ _ _ w _ (fun W hb => good_y p W hd he (hT.next hb) h) (fun W hb => rtext_any _ _ _ _ _ W hd he (hT.next hb))
theorem rjoin_n (p : Prt) (w : World) (hd : p.dig.length < 100000) (he : -9223372036854775808 ≤ p.ex ∧ p.ex ≤ 9223372036854775807) (hT : Tb10 w) (h : ¬ gdP p) :
    Calls Tryd.prog 14 #[p.v] w fun x w' => x = .returned (.tuple #[.string (B []), .int .i64 1]) ∧ Below w.heap.size w w' :=
  rjoin_n0 _ _ _ _ _ w (fun W hb => good_n p W hd he (hT.next hb) h)
set_option maxHeartbeats 4000000 in
theorem joins_with (c : Int) (s g : Bool) (d : List UInt8) (e : Int) (w : World) (hd : d.length ≤ 10000) (T : List UInt8) (E : Int)
    (c12 : ∀ W, Below w.heap.size w W → Calls Tryd.prog 12 #[PV c s g d e] W fun x w' => x = .returned (.tuple #[.string (B T), .int .i64 E]) ∧ Below W.heap.size W w')
    (c14 : ∀ W, Below w.heap.size w W → Calls Tryd.prog 14 #[PV c s g d e] W fun x w' => x = .returned (.tuple #[.string (B T), .int .i64 E]) ∧ Below W.heap.size W w') :
    Calls Tryd.prog 4 #[PV c s g d e] w fun x w' => x = .returned (.bool true) ∧ Below w.heap.size w w' := by
  have htl := B_toList
  have hsz := B_size d
  have hdi : (d.length : Int) ≤ 10000 := by omega
  have c8 := awake7
  have c13 := fun W => theirs_any c s g d e W
  have hsm := cell_set_map
  unfold PV at c12 c13 c14 ⊢
  go_enter Tryd.func4, Tryd.ntmps4
  go_wp2_with (first | (go_at_call 8; refine (c8 _).mono ?_; rintro x w1 ⟨rfl, hb1⟩; obtain ⟨hc1, hf1⟩ := bcell hb1; have hz1_0 : w.heap.size < w1.heap.size := lt_below hb1 (by first | with_reducible assumption | (simp; done) | (simp; omega)); have hl1_0 := Nat.le_of_lt hz1_0; have hA1 := bnext (w0 := w) (by (repeat (first | with_reducible assumption | with_reducible exact Below.refl _ _ | with_reducible refine Below.setCell ?_ (by first | omega | (dsimp only; omega) | (simp <;> omega)) _ | with_reducible refine Below.alloc ?_ (by first | omega | (simp <;> omega)) _ | with_reducible refine Below.drew ?_))) hb1; have hs1 := hA1.size; clear hb1) | (go_at_call 13; refine (c13 _).mono ?_; rintro x w2 ⟨rfl, hb2⟩; obtain ⟨hc2, hf2⟩ := bcell hb2; have hz2_0 : w.heap.size < w2.heap.size := lt_below hb2 (by first | with_reducible assumption | (simp; done) | (simp; omega)); have hl2_0 := Nat.le_of_lt hz2_0; have hA2 := bnext (w0 := w) (by (repeat (first | with_reducible assumption | with_reducible exact Below.refl _ _ | with_reducible refine Below.setCell ?_ (by first | omega | (dsimp only; omega) | (simp <;> omega)) _ | with_reducible refine Below.alloc ?_ (by first | omega | (simp <;> omega)) _ | with_reducible refine Below.drew ?_))) hb2; have hs2 := hA2.size; clear hb2) | (go_at_call 12; refine (c12 _ (by (repeat (first | with_reducible assumption | with_reducible exact Below.refl _ _ | with_reducible refine Below.setCell ?_ (by first | omega | (dsimp only; omega) | (simp <;> omega)) _ | with_reducible refine Below.alloc ?_ (by first | omega | (simp <;> omega)) _ | with_reducible refine Below.drew ?_)))).mono ?_; rintro x w3 ⟨rfl, hb3⟩; obtain ⟨hc3, hf3⟩ := bcell hb3; have hz3_0 : w.heap.size < w3.heap.size := lt_below hb3 (by first | with_reducible assumption | (simp; done) | (simp; omega)); have hl3_0 := Nat.le_of_lt hz3_0; have hA3 := bnext (w0 := w) (by (repeat (first | with_reducible assumption | with_reducible exact Below.refl _ _ | with_reducible refine Below.setCell ?_ (by first | omega | (dsimp only; omega) | (simp <;> omega)) _ | with_reducible refine Below.alloc ?_ (by first | omega | (simp <;> omega)) _ | with_reducible refine Below.drew ?_))) hb3; have hs3 := hA3.size; clear hb3) | (go_at_call 14; refine (c14 _ (by (repeat (first | with_reducible assumption | with_reducible exact Below.refl _ _ | with_reducible refine Below.setCell ?_ (by first | omega | (dsimp only; omega) | (simp <;> omega)) _ | with_reducible refine Below.alloc ?_ (by first | omega | (simp <;> omega)) _ | with_reducible refine Below.drew ?_)))).mono ?_; rintro x w4 ⟨rfl, hb4⟩; obtain ⟨hc4, hf4⟩ := bcell hb4; have hz4_0 : w.heap.size < w4.heap.size := lt_below hb4 (by first | with_reducible assumption | (simp; done) | (simp; omega)); have hl4_0 := Nat.le_of_lt hz4_0; have hA4 := bnext (w0 := w) (by (repeat (first | with_reducible assumption | with_reducible exact Below.refl _ _ | with_reducible refine Below.setCell ?_ (by first | omega | (dsimp only; omega) | (simp <;> omega)) _ | with_reducible refine Below.alloc ?_ (by first | omega | (simp <;> omega)) _ | with_reducible refine Below.drew ?_))) hb4; have hs4 := hA4.size; clear hb4))
  go_ret
  exact ⟨rfl, by (repeat (first | with_reducible assumption | with_reducible exact Below.refl _ _ | with_reducible refine Below.setCell ?_ (by first | omega | (dsimp only; omega) | (simp <;> omega)) _ | with_reducible refine Below.alloc ?_ (by first | omega | (simp <;> omega)) _ | with_reducible refine Below.drew ?_))⟩
set_option maxHeartbeats 2000000 in
theorem joins_long (c : Int) (s g : Bool) (d : List UInt8) (e : Int) (w : World) (hd : 10000 < d.length) :
    Calls Tryd.prog 4 #[PV c s g d e] w fun x w' => x = .returned (.bool true) ∧ Below w.heap.size w w' := by
  have hsz := B_size d
  have i1 : (10000 : Int) < d.length := by omega
  have c8 := awake7
  unfold PV
  go_enter Tryd.func4, Tryd.ntmps4
  go_wp2_with (first | (go_at_call 8; refine (c8 _).mono ?_; rintro x w1 ⟨rfl, hb1⟩; obtain ⟨hc1, hf1⟩ := bcell hb1; have hz1_0 : w.heap.size < w1.heap.size := lt_below hb1 (by first | with_reducible assumption | (simp; done) | (simp; omega)); have hl1_0 := Nat.le_of_lt hz1_0; have hA1 := bnext (w0 := w) (by (repeat (first | with_reducible assumption | with_reducible exact Below.refl _ _ | with_reducible refine Below.setCell ?_ (by first | omega | (dsimp only; omega) | (simp <;> omega)) _ | with_reducible refine Below.alloc ?_ (by first | omega | (simp <;> omega)) _ | with_reducible refine Below.drew ?_))) hb1; have hs1 := hA1.size; clear hb1))
  go_wp2_with (first | (go_at_call 8; refine (c8 _).mono ?_; rintro x w2 ⟨rfl, hb2⟩; obtain ⟨hc2, hf2⟩ := bcell hb2; have hz2_0 : w.heap.size < w2.heap.size := lt_below hb2 (by first | with_reducible assumption | (simp; done) | (simp; omega)); have hl2_0 := Nat.le_of_lt hz2_0; have hA2 := bnext (w0 := w) (by (repeat (first | with_reducible assumption | with_reducible exact Below.refl _ _ | with_reducible refine Below.setCell ?_ (by first | omega | (dsimp only; omega) | (simp <;> omega)) _ | with_reducible refine Below.alloc ?_ (by first | omega | (simp <;> omega)) _ | with_reducible refine Below.drew ?_))) hb2; have hs2 := hA2.size; clear hb2))
  go_ret
  exact ⟨rfl, by (repeat (first | with_reducible assumption | with_reducible exact Below.refl _ _ | with_reducible refine Below.setCell ?_ (by first | omega | (dsimp only; omega) | (simp <;> omega)) _ | with_reducible refine Below.alloc ?_ (by first | omega | (simp <;> omega)) _ | with_reducible refine Below.drew ?_))⟩
theorem grammarJoins_any (p : Prt) (w : World) (hT : Tb10 w) (he : -9223372036854775808 ≤ p.ex ∧ p.ex ≤ 9223372036854775807) :
    Calls Tryd.prog 4 #[p.v] w fun x w' => x = .returned (.bool true) ∧ Below w.heap.size w w' := by
  by_cases hd : p.dig.length ≤ 10000
  · by_cases h : jnP p
    · exact joins_with _ _ _ _ _ w hd _ _ (fun W hb => join_y p W (hT.next hb) he h) (fun W hb => rjoin_y p W (by omega) he (hT.next hb) (gd_of_jn h))
    · exact joins_with _ _ _ _ _ w hd _ _ (fun W hb => join_n p W (hT.next hb) he h) (fun W hb => rjoin_n p W (by omega) he (hT.next hb) fun hg => h (jn_of_gd hg))
  · exact joins_long _ _ _ _ _ w (by omega)
end Go.Proofs.YtgjdhfmpemionaaDoor
