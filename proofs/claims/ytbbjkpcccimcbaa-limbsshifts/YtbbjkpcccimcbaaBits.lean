/-
  What the law LimbsBits does: it returns true.
-/
import Derived.Test.YtbbjkpcccimcbaaBit
import Derived.Test.YtbbjkpcccimcbaaWd
namespace Go.Proofs.Ytbbjkpcccimcbaa
open Go.RowKit
attribute [local go_sem ↓] Go.wp_at_zero Go.wp_at_succ

/-- the eight words lie in block b -/
def Has8 (b : Nat) (x : Nat → Int) (w : World) : Prop := b < w.heap.size ∧ ∀ i, i < 8 → w.cell? ⟨b, i, none⟩ = some (.int .u64 (x i))
theorem Has8.next {b : Nat} {x : Nat → Int} {w w' : World} (h : Has8 b x w) (hb : Below w.heap.size w w') : Has8 b x w' :=
  ⟨Nat.lt_of_lt_of_le h.1 hb.size, fun i hi => (hb.cell (p := ⟨b, i, none⟩) h.1).trans (h.2 i hi)⟩
theorem Has8.of_alloc (x : Nat → Int) (w : World) (t : TypeId) : Has8 w.heap.size x (w.alloc (.cells (arrOf x 8) t)) := ⟨by simp, fun i hi => by rw [World.cell?_alloc_new]; exact arrOf_get? x 8 i hi⟩

set_option maxHeartbeats 1000000 in
theorem bits_a (x : Nat → Int) (n : Int) (w : World) (hx : Words x) (h0 : 0 ≤ n) (h1 : n < 128) :
    Calls Try.prog 6 #[.agg (arrOf x 8), .int .i64 n] w fun e w' => e = .returned (.bool true) ∧ Below w.heap.size w w' := by
  have hsz : (arrOf x 8).size = 8 := arrOf_size x 8
  have h512 : n < 512 := by omega
  have hcx : ∀ h, (arrOf x 8)[(n / 64).toNat]'h = .int .u64 (x (n / 64).toNat) := fun h => arrOf_get x 8 _ h
  have hj : n / 64 < 8 := by omega
  have hj0 : 0 ≤ n / 64 := by omega
  have hm : n % 64 < 64 := by omega
  have hm0 : 0 ≤ n % 64 := by omega
  have hb := hx (n / 64).toNat
  have hH : Has8 w.heap.size x (w.alloc (.cells (arrOf x 8) 23)) := Has8.of_alloc x w 23
  generalize arrOf x 8 = cs at *
  go_enter Try.func6, Try.ntmps6
  go_wp2_with (first | (go_at_call 9; refine (awake_any _).mono ?_; rintro e w1 ⟨rfl, hb1⟩; obtain ⟨hc1, hf1⟩ := bcell hb1))
  have hH1 : Has8 w.heap.size x w1 := hH.next hb1
  have hB1 : Below w.heap.size w w1 := ((Below.refl _ _).alloc (Nat.le_refl _) _).trans (hb1.mono (by simp))
  have hP : ∀ v v' : World, Has8 w.heap.size x v ∧ Below w.heap.size w v → Below v.heap.size v v' → Has8 w.heap.size x v' ∧ Below w.heap.size w v' := fun v v' h hb => ⟨h.1.next hb, h.2.trans (hb.mono h.2.size)⟩
  clear hH hb1 hc1 hf1
  refine wp_region_wd (fun w' => Has8 w.heap.size x w' ∧ Below w.heap.size w w') (by kernel_rfl) (by kernel_rfl) ⟨hH1, hB1.drew⟩ ?_
  have hne : Nonempty (Wd (fun w' => Has8 w.heap.size x w' ∧ Below w.heap.size w w')) := ⟨⟨w1, hH1, hB1⟩⟩
  have hcell : ∀ (t : Wd (fun w' => Has8 w.heap.size x w' ∧ Below w.heap.size w w')) (i : Nat), i < 8 → t.w.cell? ⟨w.heap.size, i, none⟩ = some (.int .u64 (x i)) := fun t i hi => t.h.1.2 i hi
  clear hH1 hB1
  have hrl : ∀ (n : Nat) (t : Wd (fun w' => Has8 w.heap.size x w' ∧ Below w.heap.size w w')), n ≤ 8 → Calls Try.prog 37 #[.slice (some ⟨w.heap.size, 0, none⟩) n 8] t.w fun e w' => e = .returned (.int .i64 (lenL x n)) ∧ w' = t.w := fun n t hn => len_any w.heap.size 0 n 8 x t.w (by omega) hx (fun i hi => by rw [Nat.zero_add]; exact hcell t i (by omega))
  have c36 : ∀ w, Calls Try.prog 36 #[.agg #[.int .u64 (x 0), .int .u64 (x 1), .int .u64 (x 2), .int .u64 (x 3), .int .u64 (x 4), .int .u64 (x 5), .int .u64 (x 6), .int .u64 (x 7)]] w fun e w' => e = .returned (.int .i64 (lenL x 8)) ∧ Below w.heap.size w w' := fun w => len8 x w hx
  have c12 : ∀ w, Calls Try.prog 12 #[.agg #[.int .u64 (x 0), .int .u64 (x 1), .int .u64 (x 2), .int .u64 (x 3), .int .u64 (x 4), .int .u64 (x 5), .int .u64 (x 6), .int .u64 (x 7)]] w fun e w' => e = .returned (.agg #[.int .u64 (x 0), .int .u64 (x 1)]) ∧ Below w.heap.size w w' := fun w => two_any x w
  have c38 : ∀ w, Calls Try.prog 38 #[.agg #[.int .u64 (x 0), .int .u64 (x 1)]] w fun e w' => e = .returned (.int .i64 (lenL x 2)) ∧ Below w.heap.size w w' := fun w => len2 x w hx
  have c39 : ∀ w, Calls Try.prog 39 #[.agg #[.int .u64 (x 0)]] w fun e w' => e = .returned (.int .i64 (lenL x 1)) ∧ Below w.heap.size w w' := fun w => len1 x w hx
  have c40 : ∀ w, Calls Try.prog 40 #[.agg #[.int .u64 (x 0), .int .u64 (x 1), .int .u64 (x 2), .int .u64 (x 3), .int .u64 (x 4), .int .u64 (x 5), .int .u64 (x 6), .int .u64 (x 7)], .int .i64 n] w fun e w' => e = .returned (.int .u64 (bits BinOp.and IntKind.u64 (x (n / 64).toNat / 2 ^ (n % 64).toNat) 1)) ∧ Below w.heap.size w w' := fun w => limBit8 x n w hx h0 h512
  have c41 : ∀ w, Calls Try.prog 41 #[.agg #[.int .u64 (x 0), .int .u64 (x 1)], .int .i64 n] w fun e w' => e = .returned (.int .u64 (bits BinOp.and IntKind.u64 (x (n / 64).toNat / 2 ^ (n % 64).toNat) 1)) ∧ Below w.heap.size w w' := fun w => limBit2 x n w hx h0 h1
  have r8 := fun t => hrl 8 t (by omega)
  have r2 := fun t => hrl 2 t (by omega)
  have r1 := fun t => hrl 1 t (by omega)
  clear hrl
  repeat go_big_quiet_step (fail)
  go_big_quiet_step ((go_at_call 36; exact calls_wd _ hP (c36 _)))
  repeat go_big_quiet_step (fail)
  go_big_quiet_step ((go_at_call 37; exact calls_wd_same _ (r8 _)))
  repeat go_big_quiet_step (fail)
  go_big_quiet_step ((go_at_call 12; exact calls_wd _ hP (c12 _)))
  repeat go_big_quiet_step (fail)
  go_big_quiet_step ((go_at_call 38; exact calls_wd _ hP (c38 _)))
  repeat go_big_quiet_step (fail)
  go_big_quiet_step ((go_at_call 37; exact calls_wd_same _ (r2 _)))
  repeat go_big_quiet_step (fail)
  go_big_quiet_step ((go_at_call 39; exact calls_wd _ hP (c39 _)))
  repeat go_big_quiet_step (fail)
  go_big_quiet_step ((go_at_call 37; exact calls_wd_same _ (r1 _)))
  repeat go_big_quiet_step (fail)
  go_big_quiet_step ((go_at_call 40; exact calls_wd _ hP (c40 _)))
  repeat go_big_quiet_step (fail)
  go_big_quiet_step ((go_at_call 12; exact calls_wd _ hP (c12 _)))
  repeat go_big_quiet_step (fail)
  go_big_quiet_step ((go_at_call 41; exact calls_wd _ hP (c41 _)))
  repeat go_big_quiet_step (fail)
  refine wpQuiet_nil ?_
  intro _ hw'
  obtain ⟨t, rfl⟩ := hw'
  go_wp2
  go_ret
  exact ⟨rfl, t.h.2⟩

set_option maxHeartbeats 1000000 in
theorem bits_b (x : Nat → Int) (n : Int) (w : World) (hx : Words x) (h1 : 128 ≤ n) (h512 : n < 512) :
    Calls Try.prog 6 #[.agg (arrOf x 8), .int .i64 n] w fun e w' => e = .returned (.bool true) ∧ Below w.heap.size w w' := by
  have hsz : (arrOf x 8).size = 8 := arrOf_size x 8
  have h0 : 0 ≤ n := by omega
  have hcx : ∀ h, (arrOf x 8)[(n / 64).toNat]'h = .int .u64 (x (n / 64).toNat) := fun h => arrOf_get x 8 _ h
  have hj : n / 64 < 8 := by omega
  have hj0 : 0 ≤ n / 64 := by omega
  have hm : n % 64 < 64 := by omega
  have hm0 : 0 ≤ n % 64 := by omega
  have hb := hx (n / 64).toNat
  have hH : Has8 w.heap.size x (w.alloc (.cells (arrOf x 8) 23)) := Has8.of_alloc x w 23
  generalize arrOf x 8 = cs at *
  go_enter Try.func6, Try.ntmps6
  go_wp2_with (first | (go_at_call 9; refine (awake_any _).mono ?_; rintro e w1 ⟨rfl, hb1⟩; obtain ⟨hc1, hf1⟩ := bcell hb1))
  have hH1 : Has8 w.heap.size x w1 := hH.next hb1
  have hB1 : Below w.heap.size w w1 := ((Below.refl _ _).alloc (Nat.le_refl _) _).trans (hb1.mono (by simp))
  have hP : ∀ v v' : World, Has8 w.heap.size x v ∧ Below w.heap.size w v → Below v.heap.size v v' → Has8 w.heap.size x v' ∧ Below w.heap.size w v' := fun v v' h hb => ⟨h.1.next hb, h.2.trans (hb.mono h.2.size)⟩
  clear hH hb1 hc1 hf1
  refine wp_region_wd (fun w' => Has8 w.heap.size x w' ∧ Below w.heap.size w w') (by kernel_rfl) (by kernel_rfl) ⟨hH1, hB1.drew⟩ ?_
  have hne : Nonempty (Wd (fun w' => Has8 w.heap.size x w' ∧ Below w.heap.size w w')) := ⟨⟨w1, hH1, hB1⟩⟩
  have hcell : ∀ (t : Wd (fun w' => Has8 w.heap.size x w' ∧ Below w.heap.size w w')) (i : Nat), i < 8 → t.w.cell? ⟨w.heap.size, i, none⟩ = some (.int .u64 (x i)) := fun t i hi => t.h.1.2 i hi
  clear hH1 hB1
  have hrl : ∀ (n : Nat) (t : Wd (fun w' => Has8 w.heap.size x w' ∧ Below w.heap.size w w')), n ≤ 8 → Calls Try.prog 37 #[.slice (some ⟨w.heap.size, 0, none⟩) n 8] t.w fun e w' => e = .returned (.int .i64 (lenL x n)) ∧ w' = t.w := fun n t hn => len_any w.heap.size 0 n 8 x t.w (by omega) hx (fun i hi => by rw [Nat.zero_add]; exact hcell t i (by omega))
  have c36 : ∀ w, Calls Try.prog 36 #[.agg #[.int .u64 (x 0), .int .u64 (x 1), .int .u64 (x 2), .int .u64 (x 3), .int .u64 (x 4), .int .u64 (x 5), .int .u64 (x 6), .int .u64 (x 7)]] w fun e w' => e = .returned (.int .i64 (lenL x 8)) ∧ Below w.heap.size w w' := fun w => len8 x w hx
  have c12 : ∀ w, Calls Try.prog 12 #[.agg #[.int .u64 (x 0), .int .u64 (x 1), .int .u64 (x 2), .int .u64 (x 3), .int .u64 (x 4), .int .u64 (x 5), .int .u64 (x 6), .int .u64 (x 7)]] w fun e w' => e = .returned (.agg #[.int .u64 (x 0), .int .u64 (x 1)]) ∧ Below w.heap.size w w' := fun w => two_any x w
  have c38 : ∀ w, Calls Try.prog 38 #[.agg #[.int .u64 (x 0), .int .u64 (x 1)]] w fun e w' => e = .returned (.int .i64 (lenL x 2)) ∧ Below w.heap.size w w' := fun w => len2 x w hx
  have c39 : ∀ w, Calls Try.prog 39 #[.agg #[.int .u64 (x 0)]] w fun e w' => e = .returned (.int .i64 (lenL x 1)) ∧ Below w.heap.size w w' := fun w => len1 x w hx
  have c40 : ∀ w, Calls Try.prog 40 #[.agg #[.int .u64 (x 0), .int .u64 (x 1), .int .u64 (x 2), .int .u64 (x 3), .int .u64 (x 4), .int .u64 (x 5), .int .u64 (x 6), .int .u64 (x 7)], .int .i64 n] w fun e w' => e = .returned (.int .u64 (bits BinOp.and IntKind.u64 (x (n / 64).toNat / 2 ^ (n % 64).toNat) 1)) ∧ Below w.heap.size w w' := fun w => limBit8 x n w hx h0 h512
  have c41 : ∀ w, Calls Try.prog 41 #[.agg #[.int .u64 (x 0), .int .u64 (x 1)], .int .i64 n] w fun e w' => e = .returned (.int .u64 (0)) ∧ Below w.heap.size w w' := fun w => limBit2_out x n w (Or.inr h1)
  have r8 := fun t => hrl 8 t (by omega)
  have r2 := fun t => hrl 2 t (by omega)
  have r1 := fun t => hrl 1 t (by omega)
  clear hrl
  repeat go_big_quiet_step (fail)
  go_big_quiet_step ((go_at_call 36; exact calls_wd _ hP (c36 _)))
  repeat go_big_quiet_step (fail)
  go_big_quiet_step ((go_at_call 37; exact calls_wd_same _ (r8 _)))
  repeat go_big_quiet_step (fail)
  go_big_quiet_step ((go_at_call 12; exact calls_wd _ hP (c12 _)))
  repeat go_big_quiet_step (fail)
  go_big_quiet_step ((go_at_call 38; exact calls_wd _ hP (c38 _)))
  repeat go_big_quiet_step (fail)
  go_big_quiet_step ((go_at_call 37; exact calls_wd_same _ (r2 _)))
  repeat go_big_quiet_step (fail)
  go_big_quiet_step ((go_at_call 39; exact calls_wd _ hP (c39 _)))
  repeat go_big_quiet_step (fail)
  go_big_quiet_step ((go_at_call 37; exact calls_wd_same _ (r1 _)))
  repeat go_big_quiet_step (fail)
  go_big_quiet_step ((go_at_call 40; exact calls_wd _ hP (c40 _)))
  repeat go_big_quiet_step (fail)
  go_big_quiet_step ((go_at_call 12; exact calls_wd _ hP (c12 _)))
  repeat go_big_quiet_step (fail)
  go_big_quiet_step ((go_at_call 41; exact calls_wd _ hP (c41 _)))
  repeat go_big_quiet_step (fail)
  refine wpQuiet_nil ?_
  intro _ hw'
  obtain ⟨t, rfl⟩ := hw'
  go_wp2
  go_ret
  exact ⟨rfl, t.h.2⟩

set_option maxHeartbeats 1000000 in
theorem bits_c (x : Nat → Int) (n : Int) (w : World) (hx : Words x) (h0 : n < 0) :
    Calls Try.prog 6 #[.agg (arrOf x 8), .int .i64 n] w fun e w' => e = .returned (.bool true) ∧ Below w.heap.size w w' := by
  have hsz : (arrOf x 8).size = 8 := arrOf_size x 8
  have hH : Has8 w.heap.size x (w.alloc (.cells (arrOf x 8) 23)) := Has8.of_alloc x w 23
  generalize arrOf x 8 = cs at *
  go_enter Try.func6, Try.ntmps6
  go_wp2_with (first | (go_at_call 9; refine (awake_any _).mono ?_; rintro e w1 ⟨rfl, hb1⟩; obtain ⟨hc1, hf1⟩ := bcell hb1))
  have hH1 : Has8 w.heap.size x w1 := hH.next hb1
  have hB1 : Below w.heap.size w w1 := ((Below.refl _ _).alloc (Nat.le_refl _) _).trans (hb1.mono (by simp))
  have hP : ∀ v v' : World, Has8 w.heap.size x v ∧ Below w.heap.size w v → Below v.heap.size v v' → Has8 w.heap.size x v' ∧ Below w.heap.size w v' := fun v v' h hb => ⟨h.1.next hb, h.2.trans (hb.mono h.2.size)⟩
  clear hH hb1 hc1 hf1
  refine wp_region_wd (fun w' => Has8 w.heap.size x w' ∧ Below w.heap.size w w') (by kernel_rfl) (by kernel_rfl) ⟨hH1, hB1.drew⟩ ?_
  have hne : Nonempty (Wd (fun w' => Has8 w.heap.size x w' ∧ Below w.heap.size w w')) := ⟨⟨w1, hH1, hB1⟩⟩
  have hcell : ∀ (t : Wd (fun w' => Has8 w.heap.size x w' ∧ Below w.heap.size w w')) (i : Nat), i < 8 → t.w.cell? ⟨w.heap.size, i, none⟩ = some (.int .u64 (x i)) := fun t i hi => t.h.1.2 i hi
  clear hH1 hB1
  have hrl : ∀ (n : Nat) (t : Wd (fun w' => Has8 w.heap.size x w' ∧ Below w.heap.size w w')), n ≤ 8 → Calls Try.prog 37 #[.slice (some ⟨w.heap.size, 0, none⟩) n 8] t.w fun e w' => e = .returned (.int .i64 (lenL x n)) ∧ w' = t.w := fun n t hn => len_any w.heap.size 0 n 8 x t.w (by omega) hx (fun i hi => by rw [Nat.zero_add]; exact hcell t i (by omega))
  have c36 : ∀ w, Calls Try.prog 36 #[.agg #[.int .u64 (x 0), .int .u64 (x 1), .int .u64 (x 2), .int .u64 (x 3), .int .u64 (x 4), .int .u64 (x 5), .int .u64 (x 6), .int .u64 (x 7)]] w fun e w' => e = .returned (.int .i64 (lenL x 8)) ∧ Below w.heap.size w w' := fun w => len8 x w hx
  have c12 : ∀ w, Calls Try.prog 12 #[.agg #[.int .u64 (x 0), .int .u64 (x 1), .int .u64 (x 2), .int .u64 (x 3), .int .u64 (x 4), .int .u64 (x 5), .int .u64 (x 6), .int .u64 (x 7)]] w fun e w' => e = .returned (.agg #[.int .u64 (x 0), .int .u64 (x 1)]) ∧ Below w.heap.size w w' := fun w => two_any x w
  have c38 : ∀ w, Calls Try.prog 38 #[.agg #[.int .u64 (x 0), .int .u64 (x 1)]] w fun e w' => e = .returned (.int .i64 (lenL x 2)) ∧ Below w.heap.size w w' := fun w => len2 x w hx
  have c39 : ∀ w, Calls Try.prog 39 #[.agg #[.int .u64 (x 0)]] w fun e w' => e = .returned (.int .i64 (lenL x 1)) ∧ Below w.heap.size w w' := fun w => len1 x w hx
  have c40 : ∀ w, Calls Try.prog 40 #[.agg #[.int .u64 (x 0), .int .u64 (x 1), .int .u64 (x 2), .int .u64 (x 3), .int .u64 (x 4), .int .u64 (x 5), .int .u64 (x 6), .int .u64 (x 7)], .int .i64 n] w fun e w' => e = .returned (.int .u64 (0)) ∧ Below w.heap.size w w' := fun w => limBit8_out x n w (Or.inl h0)
  have c41 : ∀ w, Calls Try.prog 41 #[.agg #[.int .u64 (x 0), .int .u64 (x 1)], .int .i64 n] w fun e w' => e = .returned (.int .u64 (0)) ∧ Below w.heap.size w w' := fun w => limBit2_out x n w (Or.inl h0)
  have r8 := fun t => hrl 8 t (by omega)
  have r2 := fun t => hrl 2 t (by omega)
  have r1 := fun t => hrl 1 t (by omega)
  clear hrl
  repeat go_big_quiet_step (fail)
  go_big_quiet_step ((go_at_call 36; exact calls_wd _ hP (c36 _)))
  repeat go_big_quiet_step (fail)
  go_big_quiet_step ((go_at_call 37; exact calls_wd_same _ (r8 _)))
  repeat go_big_quiet_step (fail)
  go_big_quiet_step ((go_at_call 12; exact calls_wd _ hP (c12 _)))
  repeat go_big_quiet_step (fail)
  go_big_quiet_step ((go_at_call 38; exact calls_wd _ hP (c38 _)))
  repeat go_big_quiet_step (fail)
  go_big_quiet_step ((go_at_call 37; exact calls_wd_same _ (r2 _)))
  repeat go_big_quiet_step (fail)
  go_big_quiet_step ((go_at_call 39; exact calls_wd _ hP (c39 _)))
  repeat go_big_quiet_step (fail)
  go_big_quiet_step ((go_at_call 37; exact calls_wd_same _ (r1 _)))
  repeat go_big_quiet_step (fail)
  go_big_quiet_step ((go_at_call 40; exact calls_wd _ hP (c40 _)))
  repeat go_big_quiet_step (fail)
  go_big_quiet_step ((go_at_call 12; exact calls_wd _ hP (c12 _)))
  repeat go_big_quiet_step (fail)
  go_big_quiet_step ((go_at_call 41; exact calls_wd _ hP (c41 _)))
  repeat go_big_quiet_step (fail)
  refine wpQuiet_nil ?_
  intro _ hw'
  obtain ⟨t, rfl⟩ := hw'
  go_wp2
  go_ret
  exact ⟨rfl, t.h.2⟩

set_option maxHeartbeats 1000000 in
theorem bits_d (x : Nat → Int) (n : Int) (w : World) (hx : Words x) (h1 : 512 ≤ n) :
    Calls Try.prog 6 #[.agg (arrOf x 8), .int .i64 n] w fun e w' => e = .returned (.bool true) ∧ Below w.heap.size w w' := by
  have hsz : (arrOf x 8).size = 8 := arrOf_size x 8
  have h0 : 0 ≤ n := by omega
  have hH : Has8 w.heap.size x (w.alloc (.cells (arrOf x 8) 23)) := Has8.of_alloc x w 23
  generalize arrOf x 8 = cs at *
  go_enter Try.func6, Try.ntmps6
  go_wp2_with (first | (go_at_call 9; refine (awake_any _).mono ?_; rintro e w1 ⟨rfl, hb1⟩; obtain ⟨hc1, hf1⟩ := bcell hb1))
  have hH1 : Has8 w.heap.size x w1 := hH.next hb1
  have hB1 : Below w.heap.size w w1 := ((Below.refl _ _).alloc (Nat.le_refl _) _).trans (hb1.mono (by simp))
  have hP : ∀ v v' : World, Has8 w.heap.size x v ∧ Below w.heap.size w v → Below v.heap.size v v' → Has8 w.heap.size x v' ∧ Below w.heap.size w v' := fun v v' h hb => ⟨h.1.next hb, h.2.trans (hb.mono h.2.size)⟩
  clear hH hb1 hc1 hf1
  refine wp_region_wd (fun w' => Has8 w.heap.size x w' ∧ Below w.heap.size w w') (by kernel_rfl) (by kernel_rfl) ⟨hH1, hB1.drew⟩ ?_
  have hne : Nonempty (Wd (fun w' => Has8 w.heap.size x w' ∧ Below w.heap.size w w')) := ⟨⟨w1, hH1, hB1⟩⟩
  have hcell : ∀ (t : Wd (fun w' => Has8 w.heap.size x w' ∧ Below w.heap.size w w')) (i : Nat), i < 8 → t.w.cell? ⟨w.heap.size, i, none⟩ = some (.int .u64 (x i)) := fun t i hi => t.h.1.2 i hi
  clear hH1 hB1
  have hrl : ∀ (n : Nat) (t : Wd (fun w' => Has8 w.heap.size x w' ∧ Below w.heap.size w w')), n ≤ 8 → Calls Try.prog 37 #[.slice (some ⟨w.heap.size, 0, none⟩) n 8] t.w fun e w' => e = .returned (.int .i64 (lenL x n)) ∧ w' = t.w := fun n t hn => len_any w.heap.size 0 n 8 x t.w (by omega) hx (fun i hi => by rw [Nat.zero_add]; exact hcell t i (by omega))
  have c36 : ∀ w, Calls Try.prog 36 #[.agg #[.int .u64 (x 0), .int .u64 (x 1), .int .u64 (x 2), .int .u64 (x 3), .int .u64 (x 4), .int .u64 (x 5), .int .u64 (x 6), .int .u64 (x 7)]] w fun e w' => e = .returned (.int .i64 (lenL x 8)) ∧ Below w.heap.size w w' := fun w => len8 x w hx
  have c12 : ∀ w, Calls Try.prog 12 #[.agg #[.int .u64 (x 0), .int .u64 (x 1), .int .u64 (x 2), .int .u64 (x 3), .int .u64 (x 4), .int .u64 (x 5), .int .u64 (x 6), .int .u64 (x 7)]] w fun e w' => e = .returned (.agg #[.int .u64 (x 0), .int .u64 (x 1)]) ∧ Below w.heap.size w w' := fun w => two_any x w
  have c38 : ∀ w, Calls Try.prog 38 #[.agg #[.int .u64 (x 0), .int .u64 (x 1)]] w fun e w' => e = .returned (.int .i64 (lenL x 2)) ∧ Below w.heap.size w w' := fun w => len2 x w hx
  have c39 : ∀ w, Calls Try.prog 39 #[.agg #[.int .u64 (x 0)]] w fun e w' => e = .returned (.int .i64 (lenL x 1)) ∧ Below w.heap.size w w' := fun w => len1 x w hx
  have c40 : ∀ w, Calls Try.prog 40 #[.agg #[.int .u64 (x 0), .int .u64 (x 1), .int .u64 (x 2), .int .u64 (x 3), .int .u64 (x 4), .int .u64 (x 5), .int .u64 (x 6), .int .u64 (x 7)], .int .i64 n] w fun e w' => e = .returned (.int .u64 (0)) ∧ Below w.heap.size w w' := fun w => limBit8_out x n w (Or.inr h1)
  have c41 : ∀ w, Calls Try.prog 41 #[.agg #[.int .u64 (x 0), .int .u64 (x 1)], .int .i64 n] w fun e w' => e = .returned (.int .u64 (0)) ∧ Below w.heap.size w w' := fun w => limBit2_out x n w (Or.inr (by omega))
  have r8 := fun t => hrl 8 t (by omega)
  have r2 := fun t => hrl 2 t (by omega)
  have r1 := fun t => hrl 1 t (by omega)
  clear hrl
  repeat go_big_quiet_step (fail)
  go_big_quiet_step ((go_at_call 36; exact calls_wd _ hP (c36 _)))
  repeat go_big_quiet_step (fail)
  go_big_quiet_step ((go_at_call 37; exact calls_wd_same _ (r8 _)))
  repeat go_big_quiet_step (fail)
  go_big_quiet_step ((go_at_call 12; exact calls_wd _ hP (c12 _)))
  repeat go_big_quiet_step (fail)
  go_big_quiet_step ((go_at_call 38; exact calls_wd _ hP (c38 _)))
  repeat go_big_quiet_step (fail)
  go_big_quiet_step ((go_at_call 37; exact calls_wd_same _ (r2 _)))
  repeat go_big_quiet_step (fail)
  go_big_quiet_step ((go_at_call 39; exact calls_wd _ hP (c39 _)))
  repeat go_big_quiet_step (fail)
  go_big_quiet_step ((go_at_call 37; exact calls_wd_same _ (r1 _)))
  repeat go_big_quiet_step (fail)
  go_big_quiet_step ((go_at_call 40; exact calls_wd _ hP (c40 _)))
  repeat go_big_quiet_step (fail)
  go_big_quiet_step ((go_at_call 12; exact calls_wd _ hP (c12 _)))
  repeat go_big_quiet_step (fail)
  go_big_quiet_step ((go_at_call 41; exact calls_wd _ hP (c41 _)))
  repeat go_big_quiet_step (fail)
  refine wpQuiet_nil ?_
  intro _ hw'
  obtain ⟨t, rfl⟩ := hw'
  go_wp2
  go_ret
  exact ⟨rfl, t.h.2⟩

theorem limbsBits_any (x : Nat → Int) (n : Int) (w : World) (hx : Words x) :
    Calls Try.prog 6 #[.agg (arrOf x 8), .int .i64 n] w fun e w' => e = .returned (.bool true) ∧ Below w.heap.size w w' := by
  by_cases h0 : n < 0
  · exact bits_c x n w hx h0
  · by_cases h1 : n < 128
    · exact bits_a x n w hx (by omega) h1
    · by_cases h2 : n < 512
      · exact bits_b x n w hx (by omega) h2
      · exact bits_d x n w hx (by omega)
end Go.Proofs.Ytbbjkpcccimcbaa
