/-
  Texts that the proof leans on, joined: Hc.
-/
import Derived.Test.YtecoajeejombbaaGreatDoorJ32
import Derived.Test.YtecoajeejombbaaGreatDoorJ1
set_option linter.unusedVariables false
set_option linter.unusedSimpArgs false
set_option maxRecDepth 20000
set_option linter.unusedSectionVars false
namespace Go.Proofs.YtecoajeejombbaaGreatDoor
open Go.RowKit

set_option maxHeartbeats 2000000 in
theorem gd_bad (s : Bool) (c : Int) (g : Bool) (y : UInt8) (ys : List UInt8) (hd : ys.length < 100000) (hi : isd (y :: ys) = false) (e : Int) (w : World) :
    Calls Tryz.prog 35 #[PV c s g (y :: ys) e] w fun x w' => x = .returned (.bool false) ∧ Below w.heap.size w w' := by
  have htl := B_toList
  have hsm := gcell_set_map
  have hsz : (B (y :: ys)).size = ys.length + 1 := B_size (y :: ys)
  have hsb := by_lt (l := y :: ys) (i := 0) (by rw [hsz]; omega)
  rw [by_zero] at hsb
  have hbd := y.toNat_lt
  have c34 := fun W => isd_any (y :: ys) W (by rw [List.length_cons]; omega)
  rw [hi] at c34
  unfold PV
  go_enter Tryz.func35, Tryz.ntmps35
  go_wp2_with (first | (go_at_call 75; refine (c34 _).mono ?_; rintro x w1 ⟨rfl, hb1⟩; obtain ⟨hc1, hf1⟩ := gbcell hb1; have hz1_0 : w.heap.size < w1.heap.size := glt_below hb1 ltg; have hl1_0 := Nat.le_of_lt hz1_0; have hA1 := gbnext (w0 := w) bgo hb1; have hs1 := hA1.size; clear hb1))
  go_ret
  exact ⟨rfl, bgo⟩
set_option maxHeartbeats 2000000 in
theorem gd_nought (s : Bool) (c : Int) (g : Bool) (y : UInt8) (ys : List UInt8) (hd : ys.length < 100000) (hi : isd (y :: ys) = true) (hy : (y.toNat : Int) = 48) (e : Int) (w : World) :
    Calls Tryz.prog 35 #[PV c s g (y :: ys) e] w fun x w' => x = .returned (.bool false) ∧ Below w.heap.size w w' := by
  have htl := B_toList
  have hsm := gcell_set_map
  have hsz : (B (y :: ys)).size = ys.length + 1 := B_size (y :: ys)
  have hsb := by_lt (l := y :: ys) (i := 0) (by rw [hsz]; omega)
  rw [by_zero] at hsb
  have hbd := y.toNat_lt
  have c34 := fun W => isd_any (y :: ys) W (by rw [List.length_cons]; omega)
  rw [hi] at c34
  unfold PV
  go_enter Tryz.func35, Tryz.ntmps35
  go_wp2_with (first | (go_at_call 75; refine (c34 _).mono ?_; rintro x w1 ⟨rfl, hb1⟩; obtain ⟨hc1, hf1⟩ := gbcell hb1; have hz1_0 : w.heap.size < w1.heap.size := glt_below hb1 ltg; have hl1_0 := Nat.le_of_lt hz1_0; have hA1 := gbnext (w0 := w) bgo hb1; have hs1 := hA1.size; clear hb1))
  go_ret
  exact ⟨rfl, bgo⟩
set_option maxHeartbeats 2000000 in
theorem gd_1sn (s : Bool) (e : Int) (w : World) :
    Calls Tryz.prog 35 #[PV 1 s true [] e] w fun x w' => x = .returned (.bool false) ∧ Below w.heap.size w w' := by
  have htl := B_toList
  have hsm := gcell_set_map
  have hn0 : B [] = ⟨#[]⟩ := rfl
  unfold PV
  go_enter Tryz.func35, Tryz.ntmps35
  go_wp2
  go_ret
  exact ⟨rfl, bgo⟩
set_option maxHeartbeats 2000000 in
theorem gd_1ln (s : Bool) (e : Int) (he : e < -1000000000) (w : World) :
    Calls Tryz.prog 35 #[PV 1 s false [] e] w fun x w' => x = .returned (.bool false) ∧ Below w.heap.size w w' := by
  have htl := B_toList
  have hsm := gcell_set_map
  have hn0 : B [] = ⟨#[]⟩ := rfl
  unfold PV
  go_enter Tryz.func35, Tryz.ntmps35
  go_wp2
  go_ret
  exact ⟨rfl, bgo⟩
set_option maxHeartbeats 2000000 in
theorem gd_1hn (s : Bool) (e : Int) (he1 : -1000000000 ≤ e) (he2 : 1000000000 < e) (w : World) :
    Calls Tryz.prog 35 #[PV 1 s false [] e] w fun x w' => x = .returned (.bool false) ∧ Below w.heap.size w w' := by
  have htl := B_toList
  have hsm := gcell_set_map
  have hn0 : B [] = ⟨#[]⟩ := rfl
  unfold PV
  go_enter Tryz.func35, Tryz.ntmps35
  go_wp2
  go_ret
  exact ⟨rfl, bgo⟩
set_option maxHeartbeats 2000000 in
theorem gd_1yn (s : Bool) (e : Int) (he1 : -1000000000 ≤ e) (he2 : e ≤ 1000000000) (T : List UInt8) (hT : (T.length : Int) ≤ 4000) (w : World)
    (c26 : ∀ W, Below w.heap.size w W → Calls Tryz.prog 47 #[PV 1 s false [] e] W fun x w' => x = .returned (.string (B T)) ∧ Below W.heap.size W w') :
    Calls Tryz.prog 35 #[PV 1 s false [] e] w fun x w' => x = .returned (.bool true) ∧ Below w.heap.size w w' := by
  have htl := B_toList
  have hsm := gcell_set_map
  have hn0 : B [] = ⟨#[]⟩ := rfl
  have hTz := B_size T
  unfold PV at c26
  unfold PV
  go_enter Tryz.func35, Tryz.ntmps35
  go_wp2_with (first | (go_at_call 47; refine (c26 _ bgo).mono ?_; rintro x w2 ⟨rfl, hb2⟩; obtain ⟨hc2, hf2⟩ := gbcell hb2; have hz2_0 : w.heap.size < w2.heap.size := glt_below hb2 ltg; have hl2_0 := Nat.le_of_lt hz2_0; have hA2 := gbnext (w0 := w) bgo hb2; have hs2 := hA2.size; clear hb2))
  go_ret
  exact ⟨rfl, bgo⟩
set_option maxHeartbeats 2000000 in
theorem gd_1tn (s : Bool) (e : Int) (he1 : -1000000000 ≤ e) (he2 : e ≤ 1000000000) (T : List UInt8) (hT : (4000 : Int) < T.length) (w : World)
    (c26 : ∀ W, Below w.heap.size w W → Calls Tryz.prog 47 #[PV 1 s false [] e] W fun x w' => x = .returned (.string (B T)) ∧ Below W.heap.size W w') :
    Calls Tryz.prog 35 #[PV 1 s false [] e] w fun x w' => x = .returned (.bool false) ∧ Below w.heap.size w w' := by
  have htl := B_toList
  have hsm := gcell_set_map
  have hn0 : B [] = ⟨#[]⟩ := rfl
  have hTz := B_size T
  unfold PV at c26
  unfold PV
  go_enter Tryz.func35, Tryz.ntmps35
  go_wp2_with (first | (go_at_call 47; refine (c26 _ bgo).mono ?_; rintro x w2 ⟨rfl, hb2⟩; obtain ⟨hc2, hf2⟩ := gbcell hb2; have hz2_0 : w.heap.size < w2.heap.size := glt_below hb2 ltg; have hl2_0 := Nat.le_of_lt hz2_0; have hA2 := gbnext (w0 := w) bgo hb2; have hs2 := hA2.size; clear hb2))
  go_ret
  exact ⟨(show Ending.returned (Value.bool (decide ((T.length : Int) ≤ 4000))) = _ by rw [decide_eq_false (by omega)]), bgo⟩
set_option maxHeartbeats 2000000 in
theorem gd_2sn (s : Bool) (e : Int) (w : World) :
    Calls Tryz.prog 35 #[PV 2 s true [] e] w fun x w' => x = .returned (.bool false) ∧ Below w.heap.size w w' := by
  have htl := B_toList
  have hsm := gcell_set_map
  have hn0 : B [] = ⟨#[]⟩ := rfl
  unfold PV
  go_enter Tryz.func35, Tryz.ntmps35
  go_wp2
  go_ret
  exact ⟨rfl, bgo⟩
set_option maxHeartbeats 2000000 in
theorem gd_2en (s : Bool) (e : Int) (he : (e == 0) = false) (w : World) :
    Calls Tryz.prog 35 #[PV 2 s false [] e] w fun x w' => x = .returned (.bool false) ∧ Below w.heap.size w w' := by
  have htl := B_toList
  have hsm := gcell_set_map
  have hn0 : B [] = ⟨#[]⟩ := rfl
  unfold PV
  go_enter Tryz.func35, Tryz.ntmps35
  go_wp2
  go_ret
  exact ⟨rfl, bgo⟩
set_option maxHeartbeats 2000000 in
theorem gd_2yn (s : Bool)  (w : World) :
    Calls Tryz.prog 35 #[PV 2 s false [] 0] w fun x w' => x = .returned (.bool true) ∧ Below w.heap.size w w' := by
  have htl := B_toList
  have hsm := gcell_set_map
  have hn0 : B [] = ⟨#[]⟩ := rfl
  unfold PV
  go_enter Tryz.func35, Tryz.ntmps35
  go_wp2
  go_ret
  exact ⟨rfl, bgo⟩
set_option maxHeartbeats 2000000 in
theorem gd_3en (s : Bool) (g : Bool) (e : Int) (he : (e == 0) = false) (w : World) :
    Calls Tryz.prog 35 #[PV 3 s g [] e] w fun x w' => x = .returned (.bool false) ∧ Below w.heap.size w w' := by
  have htl := B_toList
  have hsm := gcell_set_map
  have hn0 : B [] = ⟨#[]⟩ := rfl
  unfold PV
  go_enter Tryz.func35, Tryz.ntmps35
  go_wp2
  go_ret
  exact ⟨rfl, bgo⟩
set_option maxHeartbeats 2000000 in
theorem gd_3yn (s : Bool) (g : Bool) (T : List UInt8) (hT : (T.length : Int) ≤ 4000) (w : World)
    (c26 : ∀ W, Below w.heap.size w W → Calls Tryz.prog 47 #[PV 3 s g [] 0] W fun x w' => x = .returned (.string (B T)) ∧ Below W.heap.size W w') :
    Calls Tryz.prog 35 #[PV 3 s g [] 0] w fun x w' => x = .returned (.bool true) ∧ Below w.heap.size w w' := by
  have htl := B_toList
  have hsm := gcell_set_map
  have hn0 : B [] = ⟨#[]⟩ := rfl
  have hTz := B_size T
  unfold PV at c26
  unfold PV
  go_enter Tryz.func35, Tryz.ntmps35
  go_wp2_with (first | (go_at_call 47; refine (c26 _ bgo).mono ?_; rintro x w2 ⟨rfl, hb2⟩; obtain ⟨hc2, hf2⟩ := gbcell hb2; have hz2_0 : w.heap.size < w2.heap.size := glt_below hb2 ltg; have hl2_0 := Nat.le_of_lt hz2_0; have hA2 := gbnext (w0 := w) bgo hb2; have hs2 := hA2.size; clear hb2))
  go_ret
  exact ⟨rfl, bgo⟩
set_option maxHeartbeats 2000000 in
theorem gd_3tn (s : Bool) (g : Bool) (T : List UInt8) (hT : (4000 : Int) < T.length) (w : World)
    (c26 : ∀ W, Below w.heap.size w W → Calls Tryz.prog 47 #[PV 3 s g [] 0] W fun x w' => x = .returned (.string (B T)) ∧ Below W.heap.size W w') :
    Calls Tryz.prog 35 #[PV 3 s g [] 0] w fun x w' => x = .returned (.bool false) ∧ Below w.heap.size w w' := by
  have htl := B_toList
  have hsm := gcell_set_map
  have hn0 : B [] = ⟨#[]⟩ := rfl
  have hTz := B_size T
  unfold PV at c26
  unfold PV
  go_enter Tryz.func35, Tryz.ntmps35
  go_wp2_with (first | (go_at_call 47; refine (c26 _ bgo).mono ?_; rintro x w2 ⟨rfl, hb2⟩; obtain ⟨hc2, hf2⟩ := gbcell hb2; have hz2_0 : w.heap.size < w2.heap.size := glt_below hb2 ltg; have hl2_0 := Nat.le_of_lt hz2_0; have hA2 := gbnext (w0 := w) bgo hb2; have hs2 := hA2.size; clear hb2))
  go_ret
  exact ⟨(show Ending.returned (Value.bool (decide ((T.length : Int) ≤ 4000))) = _ by rw [decide_eq_false (by omega)]), bgo⟩
set_option maxHeartbeats 2000000 in
theorem gd_cn (s : Bool) (c : Int) (h1 : (c == 1) = false) (h2 : (c == 2) = false) (h3 : (c == 3) = false) (g : Bool) (e : Int) (w : World) :
    Calls Tryz.prog 35 #[PV c s g [] e] w fun x w' => x = .returned (.bool false) ∧ Below w.heap.size w w' := by
  have htl := B_toList
  have hsm := gcell_set_map
  have hn0 : B [] = ⟨#[]⟩ := rfl
  unfold PV
  go_enter Tryz.func35, Tryz.ntmps35
  go_wp2
  go_ret
  exact ⟨rfl, bgo⟩
set_option maxHeartbeats 2000000 in
theorem gd_1sg (s : Bool) (y : UInt8) (ys : List UInt8) (hd : ys.length < 100000) (hi : isd (y :: ys) = true) (hy : ((y.toNat : Int) == 48) = false) (e : Int) (w : World) :
    Calls Tryz.prog 35 #[PV 1 s true (y :: ys) e] w fun x w' => x = .returned (.bool false) ∧ Below w.heap.size w w' := by
  have htl := B_toList
  have hsm := gcell_set_map
  have hsz : (B (y :: ys)).size = ys.length + 1 := B_size (y :: ys)
  have hsb := by_lt (l := y :: ys) (i := 0) (by rw [hsz]; omega)
  rw [by_zero] at hsb
  have hbd := y.toNat_lt
  have c34 := fun W => isd_any (y :: ys) W (by rw [List.length_cons]; omega)
  rw [hi] at c34
  unfold PV
  go_enter Tryz.func35, Tryz.ntmps35
  go_wp2_with (first | (go_at_call 75; refine (c34 _).mono ?_; rintro x w1 ⟨rfl, hb1⟩; obtain ⟨hc1, hf1⟩ := gbcell hb1; have hz1_0 : w.heap.size < w1.heap.size := glt_below hb1 ltg; have hl1_0 := Nat.le_of_lt hz1_0; have hA1 := gbnext (w0 := w) bgo hb1; have hs1 := hA1.size; clear hb1))
  go_ret
  exact ⟨rfl, bgo⟩
set_option maxHeartbeats 2000000 in
theorem gd_1lg (s : Bool) (y : UInt8) (ys : List UInt8) (hd : ys.length < 100000) (hi : isd (y :: ys) = true) (hy : ((y.toNat : Int) == 48) = false) (e : Int) (he : e < -1000000000) (w : World) :
    Calls Tryz.prog 35 #[PV 1 s false (y :: ys) e] w fun x w' => x = .returned (.bool false) ∧ Below w.heap.size w w' := by
  have htl := B_toList
  have hsm := gcell_set_map
  have hsz : (B (y :: ys)).size = ys.length + 1 := B_size (y :: ys)
  have hsb := by_lt (l := y :: ys) (i := 0) (by rw [hsz]; omega)
  rw [by_zero] at hsb
  have hbd := y.toNat_lt
  have c34 := fun W => isd_any (y :: ys) W (by rw [List.length_cons]; omega)
  rw [hi] at c34
  unfold PV
  go_enter Tryz.func35, Tryz.ntmps35
  go_wp2_with (first | (go_at_call 75; refine (c34 _).mono ?_; rintro x w1 ⟨rfl, hb1⟩; obtain ⟨hc1, hf1⟩ := gbcell hb1; have hz1_0 : w.heap.size < w1.heap.size := glt_below hb1 ltg; have hl1_0 := Nat.le_of_lt hz1_0; have hA1 := gbnext (w0 := w) bgo hb1; have hs1 := hA1.size; clear hb1))
  go_ret
  exact ⟨rfl, bgo⟩
set_option maxHeartbeats 2000000 in
theorem gd_1hg (s : Bool) (y : UInt8) (ys : List UInt8) (hd : ys.length < 100000) (hi : isd (y :: ys) = true) (hy : ((y.toNat : Int) == 48) = false) (e : Int) (he1 : -1000000000 ≤ e) (he2 : 1000000000 < e) (w : World) :
    Calls Tryz.prog 35 #[PV 1 s false (y :: ys) e] w fun x w' => x = .returned (.bool false) ∧ Below w.heap.size w w' := by
  have htl := B_toList
  have hsm := gcell_set_map
  have hsz : (B (y :: ys)).size = ys.length + 1 := B_size (y :: ys)
  have hsb := by_lt (l := y :: ys) (i := 0) (by rw [hsz]; omega)
  rw [by_zero] at hsb
  have hbd := y.toNat_lt
  have c34 := fun W => isd_any (y :: ys) W (by rw [List.length_cons]; omega)
  rw [hi] at c34
  unfold PV
  go_enter Tryz.func35, Tryz.ntmps35
  go_wp2_with (first | (go_at_call 75; refine (c34 _).mono ?_; rintro x w1 ⟨rfl, hb1⟩; obtain ⟨hc1, hf1⟩ := gbcell hb1; have hz1_0 : w.heap.size < w1.heap.size := glt_below hb1 ltg; have hl1_0 := Nat.le_of_lt hz1_0; have hA1 := gbnext (w0 := w) bgo hb1; have hs1 := hA1.size; clear hb1))
  go_ret
  exact ⟨rfl, bgo⟩
set_option maxHeartbeats 2000000 in
theorem gd_1yg (s : Bool) (y : UInt8) (ys : List UInt8) (hd : ys.length < 100000) (hi : isd (y :: ys) = true) (hy : ((y.toNat : Int) == 48) = false) (e : Int) (he1 : -1000000000 ≤ e) (he2 : e ≤ 1000000000) (T : List UInt8) (hT : (T.length : Int) ≤ 4000) (w : World)
    (c26 : ∀ W, Below w.heap.size w W → Calls Tryz.prog 47 #[PV 1 s false (y :: ys) e] W fun x w' => x = .returned (.string (B T)) ∧ Below W.heap.size W w') :
    Calls Tryz.prog 35 #[PV 1 s false (y :: ys) e] w fun x w' => x = .returned (.bool true) ∧ Below w.heap.size w w' := by
  have htl := B_toList
  have hsm := gcell_set_map
  have hsz : (B (y :: ys)).size = ys.length + 1 := B_size (y :: ys)
  have hsb := by_lt (l := y :: ys) (i := 0) (by rw [hsz]; omega)
  rw [by_zero] at hsb
  have hbd := y.toNat_lt
  have c34 := fun W => isd_any (y :: ys) W (by rw [List.length_cons]; omega)
  rw [hi] at c34
  have hTz := B_size T
  unfold PV at c26
  unfold PV
  go_enter Tryz.func35, Tryz.ntmps35
  go_wp2_with (first | (go_at_call 75; refine (c34 _).mono ?_; rintro x w1 ⟨rfl, hb1⟩; obtain ⟨hc1, hf1⟩ := gbcell hb1; have hz1_0 : w.heap.size < w1.heap.size := glt_below hb1 ltg; have hl1_0 := Nat.le_of_lt hz1_0; have hA1 := gbnext (w0 := w) bgo hb1; have hs1 := hA1.size; clear hb1) | (go_at_call 47; refine (c26 _ bgo).mono ?_; rintro x w2 ⟨rfl, hb2⟩; obtain ⟨hc2, hf2⟩ := gbcell hb2; have hz2_0 : w.heap.size < w2.heap.size := glt_below hb2 ltg; have hl2_0 := Nat.le_of_lt hz2_0; have hA2 := gbnext (w0 := w) bgo hb2; have hs2 := hA2.size; clear hb2))
  go_ret
  exact ⟨rfl, bgo⟩
set_option maxHeartbeats 2000000 in
theorem gd_1tg (s : Bool) (y : UInt8) (ys : List UInt8) (hd : ys.length < 100000) (hi : isd (y :: ys) = true) (hy : ((y.toNat : Int) == 48) = false) (e : Int) (he1 : -1000000000 ≤ e) (he2 : e ≤ 1000000000) (T : List UInt8) (hT : (4000 : Int) < T.length) (w : World)
    (c26 : ∀ W, Below w.heap.size w W → Calls Tryz.prog 47 #[PV 1 s false (y :: ys) e] W fun x w' => x = .returned (.string (B T)) ∧ Below W.heap.size W w') :
    Calls Tryz.prog 35 #[PV 1 s false (y :: ys) e] w fun x w' => x = .returned (.bool false) ∧ Below w.heap.size w w' := by
  have htl := B_toList
  have hsm := gcell_set_map
  have hsz : (B (y :: ys)).size = ys.length + 1 := B_size (y :: ys)
  have hsb := by_lt (l := y :: ys) (i := 0) (by rw [hsz]; omega)
  rw [by_zero] at hsb
  have hbd := y.toNat_lt
  have c34 := fun W => isd_any (y :: ys) W (by rw [List.length_cons]; omega)
  rw [hi] at c34
  have hTz := B_size T
  unfold PV at c26
  unfold PV
  go_enter Tryz.func35, Tryz.ntmps35
  go_wp2_with (first | (go_at_call 75; refine (c34 _).mono ?_; rintro x w1 ⟨rfl, hb1⟩; obtain ⟨hc1, hf1⟩ := gbcell hb1; have hz1_0 : w.heap.size < w1.heap.size := glt_below hb1 ltg; have hl1_0 := Nat.le_of_lt hz1_0; have hA1 := gbnext (w0 := w) bgo hb1; have hs1 := hA1.size; clear hb1) | (go_at_call 47; refine (c26 _ bgo).mono ?_; rintro x w2 ⟨rfl, hb2⟩; obtain ⟨hc2, hf2⟩ := gbcell hb2; have hz2_0 : w.heap.size < w2.heap.size := glt_below hb2 ltg; have hl2_0 := Nat.le_of_lt hz2_0; have hA2 := gbnext (w0 := w) bgo hb2; have hs2 := hA2.size; clear hb2))
  go_ret
  exact ⟨(show Ending.returned (Value.bool (decide ((T.length : Int) ≤ 4000))) = _ by rw [decide_eq_false (by omega)]), bgo⟩
set_option maxHeartbeats 2000000 in
theorem gd_2sg (s : Bool) (y : UInt8) (ys : List UInt8) (hd : ys.length < 100000) (hi : isd (y :: ys) = true) (hy : ((y.toNat : Int) == 48) = false) (e : Int) (w : World) :
    Calls Tryz.prog 35 #[PV 2 s true (y :: ys) e] w fun x w' => x = .returned (.bool false) ∧ Below w.heap.size w w' := by
  have htl := B_toList
  have hsm := gcell_set_map
  have hsz : (B (y :: ys)).size = ys.length + 1 := B_size (y :: ys)
  have hsb := by_lt (l := y :: ys) (i := 0) (by rw [hsz]; omega)
  rw [by_zero] at hsb
  have hbd := y.toNat_lt
  have c34 := fun W => isd_any (y :: ys) W (by rw [List.length_cons]; omega)
  rw [hi] at c34
  unfold PV
  go_enter Tryz.func35, Tryz.ntmps35
  go_wp2_with (first | (go_at_call 75; refine (c34 _).mono ?_; rintro x w1 ⟨rfl, hb1⟩; obtain ⟨hc1, hf1⟩ := gbcell hb1; have hz1_0 : w.heap.size < w1.heap.size := glt_below hb1 ltg; have hl1_0 := Nat.le_of_lt hz1_0; have hA1 := gbnext (w0 := w) bgo hb1; have hs1 := hA1.size; clear hb1))
  go_ret
  exact ⟨rfl, bgo⟩
set_option maxHeartbeats 2000000 in
theorem gd_2dg (s : Bool) (y : UInt8) (ys : List UInt8) (hd : ys.length < 100000) (hi : isd (y :: ys) = true) (hy : ((y.toNat : Int) == 48) = false) (e : Int) (w : World) :
    Calls Tryz.prog 35 #[PV 2 s false (y :: ys) e] w fun x w' => x = .returned (.bool false) ∧ Below w.heap.size w w' := by
  have htl := B_toList
  have hsm := gcell_set_map
  have hsz : (B (y :: ys)).size = ys.length + 1 := B_size (y :: ys)
  have hsb := by_lt (l := y :: ys) (i := 0) (by rw [hsz]; omega)
  rw [by_zero] at hsb
  have hbd := y.toNat_lt
  have c34 := fun W => isd_any (y :: ys) W (by rw [List.length_cons]; omega)
  rw [hi] at c34
  unfold PV
  go_enter Tryz.func35, Tryz.ntmps35
  go_wp2_with (first | (go_at_call 75; refine (c34 _).mono ?_; rintro x w1 ⟨rfl, hb1⟩; obtain ⟨hc1, hf1⟩ := gbcell hb1; have hz1_0 : w.heap.size < w1.heap.size := glt_below hb1 ltg; have hl1_0 := Nat.le_of_lt hz1_0; have hA1 := gbnext (w0 := w) bgo hb1; have hs1 := hA1.size; clear hb1))
  go_ret
  exact ⟨rfl, bgo⟩
set_option maxHeartbeats 2000000 in
theorem gd_3eg (s : Bool) (g : Bool) (y : UInt8) (ys : List UInt8) (hd : ys.length < 100000) (hi : isd (y :: ys) = true) (hy : ((y.toNat : Int) == 48) = false) (e : Int) (he : (e == 0) = false) (w : World) :
    Calls Tryz.prog 35 #[PV 3 s g (y :: ys) e] w fun x w' => x = .returned (.bool false) ∧ Below w.heap.size w w' := by
  have htl := B_toList
  have hsm := gcell_set_map
  have hsz : (B (y :: ys)).size = ys.length + 1 := B_size (y :: ys)
  have hsb := by_lt (l := y :: ys) (i := 0) (by rw [hsz]; omega)
  rw [by_zero] at hsb
  have hbd := y.toNat_lt
  have c34 := fun W => isd_any (y :: ys) W (by rw [List.length_cons]; omega)
  rw [hi] at c34
  unfold PV
  go_enter Tryz.func35, Tryz.ntmps35
  go_wp2_with (first | (go_at_call 75; refine (c34 _).mono ?_; rintro x w1 ⟨rfl, hb1⟩; obtain ⟨hc1, hf1⟩ := gbcell hb1; have hz1_0 : w.heap.size < w1.heap.size := glt_below hb1 ltg; have hl1_0 := Nat.le_of_lt hz1_0; have hA1 := gbnext (w0 := w) bgo hb1; have hs1 := hA1.size; clear hb1))
  go_ret
  exact ⟨rfl, bgo⟩
set_option maxHeartbeats 2000000 in
theorem gd_3yg (s : Bool) (g : Bool) (y : UInt8) (ys : List UInt8) (hd : ys.length < 100000) (hi : isd (y :: ys) = true) (hy : ((y.toNat : Int) == 48) = false) (T : List UInt8) (hT : (T.length : Int) ≤ 4000) (w : World)
    (c26 : ∀ W, Below w.heap.size w W → Calls Tryz.prog 47 #[PV 3 s g (y :: ys) 0] W fun x w' => x = .returned (.string (B T)) ∧ Below W.heap.size W w') :
    Calls Tryz.prog 35 #[PV 3 s g (y :: ys) 0] w fun x w' => x = .returned (.bool true) ∧ Below w.heap.size w w' := by
  have htl := B_toList
  have hsm := gcell_set_map
  have hsz : (B (y :: ys)).size = ys.length + 1 := B_size (y :: ys)
  have hsb := by_lt (l := y :: ys) (i := 0) (by rw [hsz]; omega)
  rw [by_zero] at hsb
  have hbd := y.toNat_lt
  have c34 := fun W => isd_any (y :: ys) W (by rw [List.length_cons]; omega)
  rw [hi] at c34
  have hTz := B_size T
  unfold PV at c26
  unfold PV
  go_enter Tryz.func35, Tryz.ntmps35
  go_wp2_with (first | (go_at_call 75; refine (c34 _).mono ?_; rintro x w1 ⟨rfl, hb1⟩; obtain ⟨hc1, hf1⟩ := gbcell hb1; have hz1_0 : w.heap.size < w1.heap.size := glt_below hb1 ltg; have hl1_0 := Nat.le_of_lt hz1_0; have hA1 := gbnext (w0 := w) bgo hb1; have hs1 := hA1.size; clear hb1) | (go_at_call 47; refine (c26 _ bgo).mono ?_; rintro x w2 ⟨rfl, hb2⟩; obtain ⟨hc2, hf2⟩ := gbcell hb2; have hz2_0 : w.heap.size < w2.heap.size := glt_below hb2 ltg; have hl2_0 := Nat.le_of_lt hz2_0; have hA2 := gbnext (w0 := w) bgo hb2; have hs2 := hA2.size; clear hb2))
  go_ret
  exact ⟨rfl, bgo⟩
set_option maxHeartbeats 2000000 in
theorem gd_3tg (s : Bool) (g : Bool) (y : UInt8) (ys : List UInt8) (hd : ys.length < 100000) (hi : isd (y :: ys) = true) (hy : ((y.toNat : Int) == 48) = false) (T : List UInt8) (hT : (4000 : Int) < T.length) (w : World)
    (c26 : ∀ W, Below w.heap.size w W → Calls Tryz.prog 47 #[PV 3 s g (y :: ys) 0] W fun x w' => x = .returned (.string (B T)) ∧ Below W.heap.size W w') :
    Calls Tryz.prog 35 #[PV 3 s g (y :: ys) 0] w fun x w' => x = .returned (.bool false) ∧ Below w.heap.size w w' := by
  have htl := B_toList
  have hsm := gcell_set_map
  have hsz : (B (y :: ys)).size = ys.length + 1 := B_size (y :: ys)
  have hsb := by_lt (l := y :: ys) (i := 0) (by rw [hsz]; omega)
  rw [by_zero] at hsb
  have hbd := y.toNat_lt
  have c34 := fun W => isd_any (y :: ys) W (by rw [List.length_cons]; omega)
  rw [hi] at c34
  have hTz := B_size T
  unfold PV at c26
  unfold PV
  go_enter Tryz.func35, Tryz.ntmps35
  go_wp2_with (first | (go_at_call 75; refine (c34 _).mono ?_; rintro x w1 ⟨rfl, hb1⟩; obtain ⟨hc1, hf1⟩ := gbcell hb1; have hz1_0 : w.heap.size < w1.heap.size := glt_below hb1 ltg; have hl1_0 := Nat.le_of_lt hz1_0; have hA1 := gbnext (w0 := w) bgo hb1; have hs1 := hA1.size; clear hb1) | (go_at_call 47; refine (c26 _ bgo).mono ?_; rintro x w2 ⟨rfl, hb2⟩; obtain ⟨hc2, hf2⟩ := gbcell hb2; have hz2_0 : w.heap.size < w2.heap.size := glt_below hb2 ltg; have hl2_0 := Nat.le_of_lt hz2_0; have hA2 := gbnext (w0 := w) bgo hb2; have hs2 := hA2.size; clear hb2))
  go_ret
  exact ⟨(show Ending.returned (Value.bool (decide ((T.length : Int) ≤ 4000))) = _ by rw [decide_eq_false (by omega)]), bgo⟩
set_option maxHeartbeats 2000000 in
theorem gd_cg (s : Bool) (c : Int) (h1 : (c == 1) = false) (h2 : (c == 2) = false) (h3 : (c == 3) = false) (g : Bool) (y : UInt8) (ys : List UInt8) (hd : ys.length < 100000) (hi : isd (y :: ys) = true) (hy : ((y.toNat : Int) == 48) = false) (e : Int) (w : World) :
    Calls Tryz.prog 35 #[PV c s g (y :: ys) e] w fun x w' => x = .returned (.bool false) ∧ Below w.heap.size w w' := by
  have htl := B_toList
  have hsm := gcell_set_map
  have hsz : (B (y :: ys)).size = ys.length + 1 := B_size (y :: ys)
  have hsb := by_lt (l := y :: ys) (i := 0) (by rw [hsz]; omega)
  rw [by_zero] at hsb
  have hbd := y.toNat_lt
  have c34 := fun W => isd_any (y :: ys) W (by rw [List.length_cons]; omega)
  rw [hi] at c34
  unfold PV
  go_enter Tryz.func35, Tryz.ntmps35
  go_wp2_with (first | (go_at_call 75; refine (c34 _).mono ?_; rintro x w1 ⟨rfl, hb1⟩; obtain ⟨hc1, hf1⟩ := gbcell hb1; have hz1_0 : w.heap.size < w1.heap.size := glt_below hb1 ltg; have hl1_0 := Nat.le_of_lt hz1_0; have hA1 := gbnext (w0 := w) bgo hb1; have hs1 := hA1.size; clear hb1))
  go_ret
  exact ⟨rfl, bgo⟩
theorem head_ne {y : UInt8} {ys : List UInt8} (h : by_ (y :: ys) 0 ≠ 48) : ((y.toNat : Int) == 48) = false := by
  rw [by_zero] at h; exact beq_eq_false_iff_ne.2 h
theorem good_y (p : Prt) (w : World) (hd : p.dig.length < 100000) (he : -9223372036854775808 ≤ p.ex ∧ p.ex ≤ 9223372036854775807) (hT : Tb10 w) (h : gdP p) :
    Calls Tryz.prog 35 #[p.v] w fun x w' => x = .returned (.bool true) ∧ Below w.heap.size w w' := by
  have c26 := fun W (hb : Below w.heap.size w W) => rtext_any p.cls p.sg p.sn p.dig p.ex W hd he (hT.next hb)
  obtain ⟨c, s, g, d, e⟩ := p
  obtain ⟨hg, h⟩ := h
  show Calls Tryz.prog 35 #[PV c s g d e] w _
  dsimp only at c26 hd he hg h
  cases d with
  | nil =>
    rcases h with ⟨rfl, rfl, h3, h4⟩ | ⟨rfl, rfl, _, rfl⟩ | ⟨rfl, rfl, h4⟩
    · exact gd_1yn s e h3.1 h3.2 _ (by omega) w c26
    · exact gd_2yn s w
    · exact gd_3yn s g _ (by omega) w c26
  | cons y ys =>
    have hx : ys.length < 100000 := by rw [List.length_cons] at hd; omega
    rcases hg with hg | ⟨hi, hy⟩
    · cases hg
    · rcases h with ⟨rfl, rfl, h3, h4⟩ | ⟨rfl, rfl, h3, rfl⟩ | ⟨rfl, rfl, h4⟩
      · exact gd_1yg s y ys hx hi (head_ne hy) e h3.1 h3.2 _ (by omega) w c26
      · cases h3
      · exact gd_3yg s g y ys hx hi (head_ne hy) _ (by omega) w c26
theorem good_n (p : Prt) (w : World) (hd : p.dig.length < 100000) (he : -9223372036854775808 ≤ p.ex ∧ p.ex ≤ 9223372036854775807) (hT : Tb10 w) (h : ¬ gdP p) :
    Calls Tryz.prog 35 #[p.v] w fun x w' => x = .returned (.bool false) ∧ Below w.heap.size w w' := by
  have c26 := fun W (hb : Below w.heap.size w W) => rtext_any p.cls p.sg p.sn p.dig p.ex W hd he (hT.next hb)
  obtain ⟨c, s, g, d, e⟩ := p
  unfold gdP at h
  show Calls Tryz.prog 35 #[PV c s g d e] w _
  dsimp only at c26 hd he h
  cases d with
  | nil =>
    have hg : gdD [] := Or.inl rfl
    by_cases h1 : c = 1
    · subst h1
      cases g with
      | true => exact gd_1sn s e w
      | false =>
        by_cases e1 : -1000000000 ≤ e
        · by_cases e2 : e ≤ 1000000000
          · refine gd_1tn s e e1 e2 _ ?_ w c26
            by_cases h4 : (texT 1 s false [] e).length ≤ 4000
            · exact absurd ⟨hg, Or.inl ⟨rfl, rfl, ⟨e1, e2⟩, h4⟩⟩ h
            · omega
          · exact gd_1hn s e e1 (by omega) w
        · exact gd_1ln s e (by omega) w
    · by_cases h2 : c = 2
      · subst h2
        cases g with
        | true => exact gd_2sn s e w
        | false =>
          refine gd_2en s e (beq_eq_false_iff_ne.2 fun h0 => ?_) w
          exact absurd ⟨hg, Or.inr (Or.inl ⟨rfl, rfl, rfl, h0⟩)⟩ h
      · by_cases h3 : c = 3
        · subst h3
          by_cases h0 : e = 0
          · subst h0
            refine gd_3tn s g _ ?_ w c26
            by_cases h4 : (texT 3 s g [] 0).length ≤ 4000
            · exact absurd ⟨hg, Or.inr (Or.inr ⟨rfl, rfl, h4⟩)⟩ h
            · omega
          · exact gd_3en s g e (beq_eq_false_iff_ne.2 h0) w
        · exact gd_cn s c (beq_eq_false_iff_ne.2 h1) (beq_eq_false_iff_ne.2 h2) (beq_eq_false_iff_ne.2 h3) g e w
  | cons y ys =>
    have hx : ys.length < 100000 := by rw [List.length_cons] at hd; omega
    cases hi : isd (y :: ys) with
    | false => exact gd_bad s c g y ys hx hi e w
    | true =>
      by_cases hy0 : (y.toNat : Int) = 48
      · exact gd_nought s c g y ys hx hi hy0 e w
      · have hy := beq_eq_false_iff_ne.2 hy0
        have hg : gdD (y :: ys) := Or.inr ⟨hi, by rw [by_zero]; exact hy0⟩
        by_cases h1 : c = 1
        · subst h1
          cases g with
          | true => exact gd_1sg s y ys hx hi hy e w
          | false =>
            by_cases e1 : -1000000000 ≤ e
            · by_cases e2 : e ≤ 1000000000
              · refine gd_1tg s y ys hx hi hy e e1 e2 _ ?_ w c26
                by_cases h4 : (texT 1 s false (y :: ys) e).length ≤ 4000
                · exact absurd ⟨hg, Or.inl ⟨rfl, rfl, ⟨e1, e2⟩, h4⟩⟩ h
                · omega
              · exact gd_1hg s y ys hx hi hy e e1 (by omega) w
            · exact gd_1lg s y ys hx hi hy e (by omega) w
        · by_cases h2 : c = 2
          · subst h2
            cases g with
            | true => exact gd_2sg s y ys hx hi hy e w
            | false => exact gd_2dg s y ys hx hi hy e w
          · by_cases h3 : c = 3
            · subst h3
              by_cases h0 : e = 0
              · subst h0
                refine gd_3tg s g y ys hx hi hy _ ?_ w c26
                by_cases h4 : (texT 3 s g (y :: ys) 0).length ≤ 4000
                · exact absurd ⟨hg, Or.inr (Or.inr ⟨rfl, rfl, h4⟩)⟩ h
                · omega
              · exact gd_3eg s g y ys hx hi hy e (beq_eq_false_iff_ne.2 h0) w
            · exact gd_cg s c (beq_eq_false_iff_ne.2 h1) (beq_eq_false_iff_ne.2 h2) (beq_eq_false_iff_ne.2 h3) g y ys hx hi hy e w
end Go.Proofs.YtecoajeejombbaaGreatDoor
