/-
  Texts that the proof leans on.
-/
import Derived.Test.YtgknbdehlmlipaaGreatDoorR22
import Derived.Test.YtgknbdehlmlipaaGreatDoorR6
set_option linter.unusedVariables false
set_option linter.unusedSectionVars false
set_option linter.unusedSimpArgs false
set_option maxRecDepth 20000
namespace Go.Proofs.YtgknbdehlmlipaaGreatDoor
open Go.RowKit
section
attribute [local irreducible] W4

abbrev IV (n : Int) (nm : ByteArray) (wd : Int) (f e : Nat) (l m : Int) : Value := .agg #[.int .i64 n, .string nm, .int .i64 2, .int .i64 wd, .int .i64 ((f : Int) + 1), .int .i64 e, .int .i64 l, .int .i64 m, .int .i64 ((f : Int) - 1), .bool false]
theorem dat_num {w0 w : World} {c : Int} {s g : Bool} {x : Int} {k : Nat} (hb : Below (w0.alloc (.cells #[.int .i64 c, .bool s, .bool g, .int .i64 x, .int .u64 (W4 k 0), .int .u64 (W4 k 1), .int .u64 (W4 k 2), .int .u64 (W4 k 3)] 34)).heap.size (w0.alloc (.cells #[.int .i64 c, .bool s, .bool g, .int .i64 x, .int .u64 (W4 k 0), .int .u64 (W4 k 1), .int .u64 (W4 k 2), .int .u64 (W4 k 3)] 34)) w) :
    Num w (some ⟨w0.heap.size, 4, none⟩) 4 4 (lowW (W4 k) 4) := by
  refine ⟨Nat.le_refl _, by unfold maxLen; omega, lowW_words (W4_words k) 4, fun i hi => lowW_ge hi, Or.inr ⟨_, _, rfl, lt_below hb (by simp), fun i hi => ?_⟩⟩
  rw [lowW_lt hi, (hb.cell (p := ⟨w0.heap.size, 4 + i, none⟩) (by simp)), World.cell?_alloc_new]
  have : i = 0 ∨ i = 1 ∨ i = 2 ∨ i = 3 := by omega
  rcases this with rfl | rfl | rfl | rfl <;> rfl
section
variable (n : Int) (nm : ByteArray) (wd : Int) (f e : Nat) (l m : Int) (c x : Int) (s g : Bool) (k : Nat) (L : Int) (w : World) (hf : 2 ≤ f ∧ f ≤ 240)
  (c38 : ∀ W, Num W (some ⟨w.heap.size + 1, 4, none⟩) 4 4 (lowW (W4 k) 4) → Calls Tryz.prog 23 #[.slice (some ⟨w.heap.size + 1, 4, none⟩) 4 4] W fun e w' => e = .returned (.int .i64 L) ∧ W = w')
include hf c38
set_option maxHeartbeats 1000000 in
theorem is1_g  : Calls Tryz.prog 87 #[IV n nm wd f e l m, DV 1 s true x k] w fun r w' => r = .returned (.bool false) ∧ Below w.heap.size w w' := by
  have hN := dat_num (w0 := w.alloc (.cells #[.int .i64 n, .string nm, .int .i64 2, .int .i64 wd, .int .i64 ((f : Int) + 1), .int .i64 e, .int .i64 l, .int .i64 m, .int .i64 ((f : Int) - 1), .bool false] 45)) (c := 1) (s := s) (g := true) (x := x) (k := k) (Below.refl _ _)
  rw [World.size_alloc] at hN
  have cl := c38 _ hN
  clear hN c38
  go_enter Tryz.func87, Tryz.ntmps87
  go_wp2_with (go_at_call 23; refine cl.mono ?_; rintro e w1 ⟨rfl, rfl⟩)
  go_ret
  exact ⟨by first | rfl | simp [*], bgo⟩
set_option maxHeartbeats 1000000 in
theorem is1_l (h1 : ¬ L ≤ (f : Int) + 1) : Calls Tryz.prog 87 #[IV n nm wd f e l m, DV 1 s false x k] w fun r w' => r = .returned (.bool false) ∧ Below w.heap.size w w' := by
  have hN := dat_num (w0 := w.alloc (.cells #[.int .i64 n, .string nm, .int .i64 2, .int .i64 wd, .int .i64 ((f : Int) + 1), .int .i64 e, .int .i64 l, .int .i64 m, .int .i64 ((f : Int) - 1), .bool false] 45)) (c := 1) (s := s) (g := false) (x := x) (k := k) (Below.refl _ _)
  rw [World.size_alloc] at hN
  have cl := c38 _ hN
  clear hN c38
  go_enter Tryz.func87, Tryz.ntmps87
  go_wp2_with (go_at_call 23; refine cl.mono ?_; rintro e w1 ⟨rfl, rfl⟩)
  go_ret
  exact ⟨by first | rfl | simp [*], bgo⟩
set_option maxHeartbeats 1000000 in
theorem is1_x (h1 : L ≤ (f : Int) + 1) (h2 : ¬ l ≤ x) : Calls Tryz.prog 87 #[IV n nm wd f e l m, DV 1 s false x k] w fun r w' => r = .returned (.bool false) ∧ Below w.heap.size w w' := by
  have hN := dat_num (w0 := w.alloc (.cells #[.int .i64 n, .string nm, .int .i64 2, .int .i64 wd, .int .i64 ((f : Int) + 1), .int .i64 e, .int .i64 l, .int .i64 m, .int .i64 ((f : Int) - 1), .bool false] 45)) (c := 1) (s := s) (g := false) (x := x) (k := k) (Below.refl _ _)
  rw [World.size_alloc] at hN
  have cl := c38 _ hN
  clear hN c38
  go_enter Tryz.func87, Tryz.ntmps87
  go_wp2_with (go_at_call 23; refine cl.mono ?_; rintro e w1 ⟨rfl, rfl⟩)
  go_ret
  exact ⟨by first | rfl | simp [*], bgo⟩
set_option maxHeartbeats 1000000 in
theorem is1_m (h1 : L ≤ (f : Int) + 1) (h2 : l ≤ x) (h3 : ¬ x ≤ m) : Calls Tryz.prog 87 #[IV n nm wd f e l m, DV 1 s false x k] w fun r w' => r = .returned (.bool false) ∧ Below w.heap.size w w' := by
  have hN := dat_num (w0 := w.alloc (.cells #[.int .i64 n, .string nm, .int .i64 2, .int .i64 wd, .int .i64 ((f : Int) + 1), .int .i64 e, .int .i64 l, .int .i64 m, .int .i64 ((f : Int) - 1), .bool false] 45)) (c := 1) (s := s) (g := false) (x := x) (k := k) (Below.refl _ _)
  rw [World.size_alloc] at hN
  have cl := c38 _ hN
  clear hN c38
  go_enter Tryz.func87, Tryz.ntmps87
  go_wp2_with (go_at_call 23; refine cl.mono ?_; rintro e w1 ⟨rfl, rfl⟩)
  go_ret
  exact ⟨by first | rfl | simp [*], bgo⟩
set_option maxHeartbeats 1000000 in
theorem is1_n (h1 : L ≤ (f : Int) + 1) (h2 : l ≤ x) (h3 : x ≤ m) (h4 : (L == (f : Int) + 1) = false) (h5 : (x == l) = false) : Calls Tryz.prog 87 #[IV n nm wd f e l m, DV 1 s false x k] w fun r w' => r = .returned (.bool false) ∧ Below w.heap.size w w' := by
  have hN := dat_num (w0 := w.alloc (.cells #[.int .i64 n, .string nm, .int .i64 2, .int .i64 wd, .int .i64 ((f : Int) + 1), .int .i64 e, .int .i64 l, .int .i64 m, .int .i64 ((f : Int) - 1), .bool false] 45)) (c := 1) (s := s) (g := false) (x := x) (k := k) (Below.refl _ _)
  rw [World.size_alloc] at hN
  have cl := c38 _ hN
  clear hN c38
  go_enter Tryz.func87, Tryz.ntmps87
  go_wp2_with (go_at_call 23; refine cl.mono ?_; rintro e w1 ⟨rfl, rfl⟩)
  go_ret
  exact ⟨by first | rfl | simp [*], bgo⟩
set_option maxHeartbeats 1000000 in
theorem is1_a (h1 : L ≤ (f : Int) + 1) (h2 : l ≤ x) (h3 : x ≤ m) (h4 : (L == (f : Int) + 1) = true) : Calls Tryz.prog 87 #[IV n nm wd f e l m, DV 1 s false x k] w fun r w' => r = .returned (.bool true) ∧ Below w.heap.size w w' := by
  have hN := dat_num (w0 := w.alloc (.cells #[.int .i64 n, .string nm, .int .i64 2, .int .i64 wd, .int .i64 ((f : Int) + 1), .int .i64 e, .int .i64 l, .int .i64 m, .int .i64 ((f : Int) - 1), .bool false] 45)) (c := 1) (s := s) (g := false) (x := x) (k := k) (Below.refl _ _)
  rw [World.size_alloc] at hN
  have cl := c38 _ hN
  clear hN c38
  go_enter Tryz.func87, Tryz.ntmps87
  go_wp2_with (go_at_call 23; refine cl.mono ?_; rintro e w1 ⟨rfl, rfl⟩)
  go_ret
  exact ⟨by first | rfl | simp [*], bgo⟩
set_option maxHeartbeats 1000000 in
theorem is1_b (h1 : L ≤ (f : Int) + 1) (h2 : l ≤ x) (h3 : x ≤ m) (h4 : (L == (f : Int) + 1) = false) (h5 : (x == l) = true) : Calls Tryz.prog 87 #[IV n nm wd f e l m, DV 1 s false x k] w fun r w' => r = .returned (.bool true) ∧ Below w.heap.size w w' := by
  have hN := dat_num (w0 := w.alloc (.cells #[.int .i64 n, .string nm, .int .i64 2, .int .i64 wd, .int .i64 ((f : Int) + 1), .int .i64 e, .int .i64 l, .int .i64 m, .int .i64 ((f : Int) - 1), .bool false] 45)) (c := 1) (s := s) (g := false) (x := x) (k := k) (Below.refl _ _)
  rw [World.size_alloc] at hN
  have cl := c38 _ hN
  clear hN c38
  go_enter Tryz.func87, Tryz.ntmps87
  go_wp2_with (go_at_call 23; refine cl.mono ?_; rintro e w1 ⟨rfl, rfl⟩)
  go_ret
  exact ⟨by first | rfl | simp [*], bgo⟩
set_option maxHeartbeats 1000000 in
theorem is2_g  : Calls Tryz.prog 87 #[IV n nm wd f e l m, DV 2 s true x k] w fun r w' => r = .returned (.bool false) ∧ Below w.heap.size w w' := by
  have hN := dat_num (w0 := w.alloc (.cells #[.int .i64 n, .string nm, .int .i64 2, .int .i64 wd, .int .i64 ((f : Int) + 1), .int .i64 e, .int .i64 l, .int .i64 m, .int .i64 ((f : Int) - 1), .bool false] 45)) (c := 2) (s := s) (g := true) (x := x) (k := k) (Below.refl _ _)
  rw [World.size_alloc] at hN
  have cl := c38 _ hN
  clear hN c38
  go_enter Tryz.func87, Tryz.ntmps87
  go_wp2_with (go_at_call 23; refine cl.mono ?_; rintro e w1 ⟨rfl, rfl⟩)
  go_ret
  exact ⟨by first | rfl | simp [*], bgo⟩
set_option maxHeartbeats 1000000 in
theorem is2_l (h1 : (L == 0) = false) : Calls Tryz.prog 87 #[IV n nm wd f e l m, DV 2 s false x k] w fun r w' => r = .returned (.bool false) ∧ Below w.heap.size w w' := by
  have hN := dat_num (w0 := w.alloc (.cells #[.int .i64 n, .string nm, .int .i64 2, .int .i64 wd, .int .i64 ((f : Int) + 1), .int .i64 e, .int .i64 l, .int .i64 m, .int .i64 ((f : Int) - 1), .bool false] 45)) (c := 2) (s := s) (g := false) (x := x) (k := k) (Below.refl _ _)
  rw [World.size_alloc] at hN
  have cl := c38 _ hN
  clear hN c38
  go_enter Tryz.func87, Tryz.ntmps87
  go_wp2_with (go_at_call 23; refine cl.mono ?_; rintro e w1 ⟨rfl, rfl⟩)
  go_ret
  exact ⟨by first | rfl | simp [*], bgo⟩
set_option maxHeartbeats 1000000 in
theorem is2_x (h1 : (L == 0) = true) (h2 : (x == 0) = false) : Calls Tryz.prog 87 #[IV n nm wd f e l m, DV 2 s false x k] w fun r w' => r = .returned (.bool false) ∧ Below w.heap.size w w' := by
  have hN := dat_num (w0 := w.alloc (.cells #[.int .i64 n, .string nm, .int .i64 2, .int .i64 wd, .int .i64 ((f : Int) + 1), .int .i64 e, .int .i64 l, .int .i64 m, .int .i64 ((f : Int) - 1), .bool false] 45)) (c := 2) (s := s) (g := false) (x := x) (k := k) (Below.refl _ _)
  rw [World.size_alloc] at hN
  have cl := c38 _ hN
  clear hN c38
  go_enter Tryz.func87, Tryz.ntmps87
  go_wp2_with (go_at_call 23; refine cl.mono ?_; rintro e w1 ⟨rfl, rfl⟩)
  go_ret
  exact ⟨by first | rfl | simp [*], bgo⟩
set_option maxHeartbeats 1000000 in
theorem is2_a (h1 : (L == 0) = true) (h2 : (x == 0) = true) : Calls Tryz.prog 87 #[IV n nm wd f e l m, DV 2 s false x k] w fun r w' => r = .returned (.bool true) ∧ Below w.heap.size w w' := by
  have hN := dat_num (w0 := w.alloc (.cells #[.int .i64 n, .string nm, .int .i64 2, .int .i64 wd, .int .i64 ((f : Int) + 1), .int .i64 e, .int .i64 l, .int .i64 m, .int .i64 ((f : Int) - 1), .bool false] 45)) (c := 2) (s := s) (g := false) (x := x) (k := k) (Below.refl _ _)
  rw [World.size_alloc] at hN
  have cl := c38 _ hN
  clear hN c38
  go_enter Tryz.func87, Tryz.ntmps87
  go_wp2_with (go_at_call 23; refine cl.mono ?_; rintro e w1 ⟨rfl, rfl⟩)
  go_ret
  exact ⟨by first | rfl | simp [*], bgo⟩
set_option maxHeartbeats 1000000 in
theorem is3_x (h2 : (x == 0) = false) : Calls Tryz.prog 87 #[IV n nm wd f e l m, DV 3 s g x k] w fun r w' => r = .returned (.bool false) ∧ Below w.heap.size w w' := by
  have hN := dat_num (w0 := w.alloc (.cells #[.int .i64 n, .string nm, .int .i64 2, .int .i64 wd, .int .i64 ((f : Int) + 1), .int .i64 e, .int .i64 l, .int .i64 m, .int .i64 ((f : Int) - 1), .bool false] 45)) (c := 3) (s := s) (g := g) (x := x) (k := k) (Below.refl _ _)
  rw [World.size_alloc] at hN
  have cl := c38 _ hN
  clear hN c38
  go_enter Tryz.func87, Tryz.ntmps87
  go_wp2_with (go_at_call 23; refine cl.mono ?_; rintro e w1 ⟨rfl, rfl⟩)
  go_ret
  exact ⟨by first | rfl | simp [*], bgo⟩
set_option maxHeartbeats 1000000 in
theorem is3_l (h2 : (x == 0) = true) (h1 : ¬ L ≤ (f : Int) - 1) : Calls Tryz.prog 87 #[IV n nm wd f e l m, DV 3 s g x k] w fun r w' => r = .returned (.bool false) ∧ Below w.heap.size w w' := by
  have hN := dat_num (w0 := w.alloc (.cells #[.int .i64 n, .string nm, .int .i64 2, .int .i64 wd, .int .i64 ((f : Int) + 1), .int .i64 e, .int .i64 l, .int .i64 m, .int .i64 ((f : Int) - 1), .bool false] 45)) (c := 3) (s := s) (g := g) (x := x) (k := k) (Below.refl _ _)
  rw [World.size_alloc] at hN
  have cl := c38 _ hN
  clear hN c38
  go_enter Tryz.func87, Tryz.ntmps87
  go_wp2_with (go_at_call 23; refine cl.mono ?_; rintro e w1 ⟨rfl, rfl⟩)
  go_ret
  exact ⟨by first | rfl | simp [*], bgo⟩
set_option maxHeartbeats 1000000 in
theorem is3_a (h2 : (x == 0) = true) (h1 : L ≤ (f : Int) - 1) (h3 : 0 < L) : Calls Tryz.prog 87 #[IV n nm wd f e l m, DV 3 s g x k] w fun r w' => r = .returned (.bool true) ∧ Below w.heap.size w w' := by
  have hN := dat_num (w0 := w.alloc (.cells #[.int .i64 n, .string nm, .int .i64 2, .int .i64 wd, .int .i64 ((f : Int) + 1), .int .i64 e, .int .i64 l, .int .i64 m, .int .i64 ((f : Int) - 1), .bool false] 45)) (c := 3) (s := s) (g := g) (x := x) (k := k) (Below.refl _ _)
  rw [World.size_alloc] at hN
  have cl := c38 _ hN
  clear hN c38
  go_enter Tryz.func87, Tryz.ntmps87
  go_wp2_with (go_at_call 23; refine cl.mono ?_; rintro e w1 ⟨rfl, rfl⟩)
  go_ret
  exact ⟨by first | rfl | simp [*], bgo⟩
set_option maxHeartbeats 1000000 in
theorem is3_q (h2 : (x == 0) = true) (h1 : L ≤ (f : Int) - 1) (h3 : ¬ 0 < L) : Calls Tryz.prog 87 #[IV n nm wd f e l m, DV 3 s false x k] w fun r w' => r = .returned (.bool true) ∧ Below w.heap.size w w' := by
  have hN := dat_num (w0 := w.alloc (.cells #[.int .i64 n, .string nm, .int .i64 2, .int .i64 wd, .int .i64 ((f : Int) + 1), .int .i64 e, .int .i64 l, .int .i64 m, .int .i64 ((f : Int) - 1), .bool false] 45)) (c := 3) (s := s) (g := false) (x := x) (k := k) (Below.refl _ _)
  rw [World.size_alloc] at hN
  have cl := c38 _ hN
  clear hN c38
  go_enter Tryz.func87, Tryz.ntmps87
  go_wp2_with (go_at_call 23; refine cl.mono ?_; rintro e w1 ⟨rfl, rfl⟩)
  go_ret
  exact ⟨by first | rfl | simp [*], bgo⟩
set_option maxHeartbeats 1000000 in
theorem is3_s (h2 : (x == 0) = true) (h1 : L ≤ (f : Int) - 1) (h3 : ¬ 0 < L) : Calls Tryz.prog 87 #[IV n nm wd f e l m, DV 3 s true x k] w fun r w' => r = .returned (.bool false) ∧ Below w.heap.size w w' := by
  have hN := dat_num (w0 := w.alloc (.cells #[.int .i64 n, .string nm, .int .i64 2, .int .i64 wd, .int .i64 ((f : Int) + 1), .int .i64 e, .int .i64 l, .int .i64 m, .int .i64 ((f : Int) - 1), .bool false] 45)) (c := 3) (s := s) (g := true) (x := x) (k := k) (Below.refl _ _)
  rw [World.size_alloc] at hN
  have cl := c38 _ hN
  clear hN c38
  go_enter Tryz.func87, Tryz.ntmps87
  go_wp2_with (go_at_call 23; refine cl.mono ?_; rintro e w1 ⟨rfl, rfl⟩)
  go_ret
  exact ⟨by first | rfl | simp [*], bgo⟩
set_option maxHeartbeats 1000000 in
theorem is_0 (h1 : (c == 1) = false) (h2 : (c == 2) = false) (h3 : (c == 3) = false) : Calls Tryz.prog 87 #[IV n nm wd f e l m, DV c s g x k] w fun r w' => r = .returned (.bool false) ∧ Below w.heap.size w w' := by
  have hN := dat_num (w0 := w.alloc (.cells #[.int .i64 n, .string nm, .int .i64 2, .int .i64 wd, .int .i64 ((f : Int) + 1), .int .i64 e, .int .i64 l, .int .i64 m, .int .i64 ((f : Int) - 1), .bool false] 45)) (c := c) (s := s) (g := g) (x := x) (k := k) (Below.refl _ _)
  rw [World.size_alloc] at hN
  have cl := c38 _ hN
  clear hN c38
  go_enter Tryz.func87, Tryz.ntmps87
  go_wp2_with (go_at_call 23; refine cl.mono ?_; rintro e w1 ⟨rfl, rfl⟩)
  go_ret
  exact ⟨by first | rfl | simp [*], bgo⟩
end
theorem ris_any (n : Int) (nm : ByteArray) (wd : Int) (f e : Nat) (l m : Int) (d : Dat) (w : World) (h : Fm f e l m) (hk : d.k < 2 ^ 256) :
    Calls Tryz.prog 87 #[IV n nm wd f e l m, d.v] w fun r w' => r = .returned (.bool (decide (isD f l m d))) ∧ Below w.heap.size w w' := by
  obtain ⟨c, s, g, x, k⟩ := d
  unfold Dat.v
  dsimp only at hk ⊢
  have hf : 2 ≤ f ∧ f ≤ 240 := ⟨h.f2, h.f240⟩
  have c38 : ∀ W, Num W (some ⟨w.heap.size + 1, 4, none⟩) 4 4 (lowW (W4 k) 4) → Calls Tryz.prog 23 #[.slice (some ⟨w.heap.size + 1, 4, none⟩) 4 4] W fun e w' => e = .returned (.int .i64 (lenL (W4 k) 4)) ∧ W = w' := fun W hN => by
    have := rlen_num (some ⟨w.heap.size + 1, 4, none⟩) 4 4 (lowW (W4 k) 4) W (by decide) hN
    rw [lenL_low] at this
    exact this
  have hL1 := len4_le (k := f + 1) hk
  have hL0 := len4_le (k := f) hk
  have hLp := len4_le (k := f - 1) hk
  have hLz := len4_zero hk
  have hz0 : 0 ≤ lenL (W4 k) 4 := by
    by_cases hz : k = 0
    · rw [hLz.2 hz]; exact Int.le_refl _
    · have := len4_le (k := 0) hk
      have h1 : ¬ lenL (W4 k) 4 ≤ ((0 : Nat) : Int) := fun hh => hz (by have := this.1 hh; omega)
      omega
  rw [show ((f + 1 : Nat) : Int) = (f : Int) + 1 by omega] at hL1
  rw [show ((f - 1 : Nat) : Int) = (f : Int) - 1 by omega] at hLp
  generalize lenL (W4 k) 4 = L at *
  have D : ∀ (p : Prop) [Decidable p] (b : Bool), (b = true ↔ p) → decide p = b := fun p _ b hb => by
    cases b
    · exact decide_eq_false fun hp => by simpa using hb.2 hp
    · exact decide_eq_true (hb.1 rfl)
  by_cases h1 : c = 1
  · subst h1
    cases g with
    | true => rw [D _ false (by unfold isD; simp)]; exact is1_g n nm wd f e l m x s k L w hf c38
    | false =>
      by_cases a1 : L ≤ (f : Int) + 1
      · by_cases a2 : l ≤ x
        · by_cases a3 : x ≤ m
          · by_cases a4 : L = (f : Int) + 1
            · rw [D _ true (by unfold isD; simp; refine ⟨hL1.1 a1, a2, a3, Or.inl ?_⟩; rcases Nat.lt_or_ge k (2 ^ f) with hh | hh; (have := hL0.2 hh; omega); exact hh)]
              exact is1_a n nm wd f e l m x s k L w hf c38 a1 a2 a3 (by simpa using a4)
            · by_cases a5 : x = l
              · rw [D _ true (by unfold isD; simp; exact ⟨hL1.1 a1, a2, a3, Or.inr a5⟩)]
                exact is1_b n nm wd f e l m x s k L w hf c38 a1 a2 a3 (by simpa using a4) (by simpa using a5)
              · rw [D _ false (by unfold isD; simp; intro _ _ _; have hkf := hL0.1 (by omega); exact ⟨by omega, a5⟩)]
                exact is1_n n nm wd f e l m x s k L w hf c38 a1 a2 a3 (by simpa using a4) (by simpa using a5)
          · rw [D _ false (by unfold isD; simp; intro _ _ h3; exact absurd h3 a3)]
            exact is1_m n nm wd f e l m x s k L w hf c38 a1 a2 a3
        · rw [D _ false (by unfold isD; simp; intro _ h2; exact absurd h2 a2)]
          exact is1_x n nm wd f e l m x s k L w hf c38 a1 a2
      · rw [D _ false (by unfold isD; simp; intro h3; exact absurd (hL1.2 h3) a1)]
        exact is1_l n nm wd f e l m x s k L w hf c38 a1
  · by_cases h2 : c = 2
    · subst h2
      cases g with
      | true => rw [D _ false (by unfold isD; simp)]; exact is2_g n nm wd f e l m x s k L w hf c38
      | false =>
        by_cases a1 : L = 0
        · by_cases a2 : x = 0
          · rw [D _ true (by unfold isD; simp; exact ⟨a2, hLz.1 a1⟩)]
            exact is2_a n nm wd f e l m x s k L w hf c38 (by simpa using a1) (by simpa using a2)
          · rw [D _ false (by unfold isD; simp; intro h3; exact absurd h3 a2)]
            exact is2_x n nm wd f e l m x s k L w hf c38 (by simpa using a1) (by simpa using a2)
        · rw [D _ false (by unfold isD; simp; intro _ h3; exact a1 (hLz.2 h3))]
          exact is2_l n nm wd f e l m x s k L w hf c38 (by simpa using a1)
    · by_cases h3 : c = 3
      · subst h3
        by_cases a2 : x = 0
        · by_cases a1 : L ≤ (f : Int) - 1
          · by_cases a3 : 0 < L
            · rw [D _ true (by unfold isD; simp; exact ⟨a2, hLp.1 a1, Or.inl fun hh => by rw [hLz.2 hh] at a3; omega⟩)]
              exact is3_a n nm wd f e l m x s g k L w hf c38 (by simpa using a2) a1 a3
            · have k0 : k = 0 := hLz.1 (by omega)
              cases g with
              | false =>
                rw [D _ true (by unfold isD; simp; exact ⟨a2, hLp.1 a1⟩)]
                exact is3_q n nm wd f e l m x s k L w hf c38 (by simpa using a2) a1 a3
              | true =>
                rw [D _ false (by unfold isD; simp; intro _ _; exact k0)]
                exact is3_s n nm wd f e l m x s k L w hf c38 (by simpa using a2) a1 a3
          · rw [D _ false (by unfold isD; simp; intro _ h4; exact absurd (hLp.2 h4) a1)]
            exact is3_l n nm wd f e l m x s g k L w hf c38 (by simpa using a2) a1
        · rw [D _ false (by unfold isD; simp; intro h4; exact absurd h4 a2)]
          exact is3_x n nm wd f e l m x s g k L w hf c38 (by simpa using a2)
      · rw [D _ false (by unfold isD; simp [h1, h2, h3])]
        exact is_0 n nm wd f e l m c x s g k L w hf c38 (by simpa using h1) (by simpa using h2) (by simpa using h3)
end
end Go.Proofs.YtgknbdehlmlipaaGreatDoor
