/-
  What flags' Raise, Clear, Test, Set, Flags and Direction do, called by one goroutine: contracts.
-/
import Derived.Test.YtjfdmhhglgdfkaaCtx
import Derived.Deep.RegionWith
set_option linter.unusedVariables false
set_option linter.unusedSimpArgs false
namespace Go.Proofs.Ytjfdmhhglgdfkaa
open Go.RowKit

/-- all but block g is as it was (the count of draws aside) -/
structure Upd (g : Nat) (w w' : World) : Prop where
  os : w'.os = w.os
  tape : w'.tape = w.tape
  output : w'.output = w.output
  size : w'.heap.size = w.heap.size
  block : ∀ k, k ≠ g → w'.heap[k]? = w.heap[k]?
theorem Upd.refl (g : Nat) (w : World) : Upd g w w := ⟨rfl, rfl, rfl, rfl, fun _ _ => rfl⟩
theorem Upd.trans {g : Nat} {a b c : World} (h : Upd g a b) (k : Upd g b c) : Upd g a c :=
  ⟨k.os.trans h.os, k.tape.trans h.tape, k.output.trans h.output, k.size.trans h.size, fun i hi => (k.block i hi).trans (h.block i hi)⟩
theorem Upd.drewN {g : Nat} {a b : World} (h : Upd g a b) (m : Nat) : Upd g a (b.drewN m) := ⟨h.os, h.tape, h.output, h.size, h.block⟩
theorem Upd.drew {g : Nat} {a b : World} (h : Upd g a b) : Upd g a b.drew := ⟨h.os, h.tape, h.output, h.size, h.block⟩
theorem Upd.set {g : Nat} {a b : World} (h : Upd g a b) (i : Nat) (v : Value) : Upd g a (b.setCell ⟨g, i, none⟩ v) :=
  h.trans ⟨rfl, rfl, rfl, by simp [World.setCell], fun k hk => Below.heap_setCell _ _ _ _ hk⟩
theorem Upd.below {g B : Nat} {w w' : World} (h : Upd g w w') (hB : B ≤ g) : Below B w w' := ⟨h.os, h.tape, h.output, Nat.le_of_eq h.size.symm, fun k hk => h.block k (by omega)⟩

set_option maxHeartbeats 400000 in
theorem raise_any (b : Nat) (r : BitVec 4) (d n : Int) (w : World) (h : Ctx b r d w) :
    Calls Try.prog 10 #[.pointer (some ⟨b, 0, none⟩), .int .i64 n] w fun e w' => e = .returned (.tuple #[]) ∧ Ctx b (r ||| L n) d w' ∧ Upd b w w' := by
  go_enter Try.func10, Try.ntmps10
  go_wp2_with fail
  go_region_with (first | (go_at_call 19; refine (known_any n _).mono ?_; rintro e w' ⟨rfl, rfl⟩) | (go_at_call 18; refine (or_any b r (L n) _ h.drew.cell0 (h.drew.frozen 0)).mono ?_; rintro e w' ⟨rfl, rfl⟩))
  go_end0
  exact ⟨rfl, h.drew.set0 _, (Upd.refl b w).drew.set _ _⟩
theorem raise_nil (n : Int) (w : World) :
    Calls Try.prog 10 #[.pointer none, .int .i64 n] w fun e w' => e = .returned (.tuple #[]) ∧ w' = w := by
  go_enter Try.func10, Try.ntmps10
  go_wp2
  first | go_end0 | refine bodyPost_ret (results_none rfl _ _ _) rfl ?_
  exact ⟨rfl, rfl⟩
set_option maxHeartbeats 400000 in
theorem clear_any (b : Nat) (r : BitVec 4) (d n : Int) (w : World) (hC : Ctx b r d w) :
    Calls Try.prog 11 #[.pointer (some ⟨b, 0, none⟩), .int .i64 n] w fun e w' => e = .returned (.int .i64 (F (r &&& L n))) ∧ Ctx b (r &&& ~~~ L n) d w' ∧ Upd b w w' := by
  have e1 := and32 r (L n)
  have e2 := F_range (r &&& L n)
  have e3 := F_range (L n)
  go_enter Try.func11, Try.ntmps11
  go_wp2_with (first | (go_at_call 19; refine (known_any n _).mono ?_; rintro e w' ⟨rfl, rfl⟩) | (go_at_call 20; refine (and_any b r (L n) _ hC.cell0 (hC.frozen 0)).mono ?_; rintro e w' ⟨rfl, rfl⟩))
  go_ret
  exact ⟨rfl, hC.set0 _, (Upd.refl b w).set _ _⟩
theorem clear_nil (n : Int) (w : World) :
    Calls Try.prog 11 #[.pointer none, .int .i64 n] w fun e w' => e = .returned (.int .i64 0) ∧ w' = w := by
  go_enter Try.func11, Try.ntmps11
  go_wp2
  go_ret
  exact ⟨rfl, rfl⟩
set_option maxHeartbeats 400000 in
theorem test_any (b : Nat) (r : BitVec 4) (d n : Int) (w : World) (h : Ctx b r d w) :
    Calls Try.prog 12 #[.pointer (some ⟨b, 0, none⟩), .int .i64 n] w fun e w' => e = .returned (.bool (F (r &&& L n) != 0)) ∧ w' = w := by
  have e1 := and32 r (L n)
  go_enter Try.func12, Try.ntmps12
  go_wp2_with (first | (go_at_call 19; refine (known_any n _).mono ?_; rintro e w' ⟨rfl, rfl⟩) | (go_at_call 21; refine (load_any b r _ h.cell0).mono ?_; rintro e w' ⟨rfl, rfl⟩))
  go_ret
  exact ⟨rfl, rfl⟩
theorem test_nil (n : Int) (w : World) :
    Calls Try.prog 12 #[.pointer none, .int .i64 n] w fun e w' => e = .returned (.bool false) ∧ w' = w := by
  go_enter Try.func12, Try.ntmps12
  go_wp2
  go_ret
  exact ⟨rfl, rfl⟩
theorem flags_any (b : Nat) (r : BitVec 4) (d : Int) (w : World) (h : Ctx b r d w) :
    Calls Try.prog 14 #[.pointer (some ⟨b, 0, none⟩)] w fun e w' => e = .returned (.int .i64 (F r)) ∧ w' = w := by
  have e2 := F_range r
  go_enter Try.func14, Try.ntmps14
  go_wp2_with (go_at_call 21; refine (load_any b r _ h.cell0).mono ?_; rintro e w' ⟨rfl, rfl⟩)
  go_ret
  exact ⟨rfl, rfl⟩
theorem flags_nil (w : World) : Calls Try.prog 14 #[.pointer none] w fun e w' => e = .returned (.int .i64 0) ∧ w' = w := by
  go_enter Try.func14, Try.ntmps14
  go_wp2
  go_ret
  exact ⟨rfl, rfl⟩
theorem direction_any (b : Nat) (r : BitVec 4) (d : Int) (w : World) (h : Ctx b r d w) (hd : 0 ≤ d ∧ d ≤ 4) :
    Calls Try.prog 15 #[.pointer (some ⟨b, 0, none⟩)] w fun e w' => e = .returned (.int .i64 d) ∧ w' = w := by
  go_enter Try.func15, Try.ntmps15
  go_wp2_with (go_at_call 23; refine (loadI_any b d _ h.cell1).mono ?_; rintro e w' ⟨rfl, rfl⟩)
  go_ret
  exact ⟨rfl, rfl⟩
theorem direction_nil (w : World) : Calls Try.prog 15 #[.pointer none] w fun e w' => e = .returned (.int .i64 0) ∧ w' = w := by
  go_enter Try.func15, Try.ntmps15
  go_wp2
  go_ret
  exact ⟨rfl, rfl⟩
theorem set_any (b : Nat) (r : BitVec 4) (d n : Int) (w : World) (h : Ctx b r d w) (hd : 0 ≤ d ∧ d ≤ 4) (hn : 0 ≤ n ∧ n ≤ 4) :
    Calls Try.prog 13 #[.pointer (some ⟨b, 0, none⟩), .int .i64 n] w fun e w' => e = .returned (.tuple #[.int .i64 d, .int .i64 0]) ∧ Ctx b r n w' ∧ Upd b w w' := by
  go_enter Try.func13, Try.ntmps13
  go_wp2_with (go_at_call 22; refine (swap_any b d n _ h.cell1 (h.frozen 1)).mono ?_; rintro e w' ⟨rfl, rfl⟩)
  go_ret2
  exact ⟨rfl, h.set1 _, (Upd.refl b w).set _ _⟩
theorem set_bad (b : Nat) (n : Int) (w : World) (hn : n < 0 ∨ 4 < n) :
    Calls Try.prog 13 #[.pointer (some ⟨b, 0, none⟩), .int .i64 n] w fun e w' => e = .returned (.tuple #[.int .i64 0, .int .i64 1]) ∧ w' = w := by
  rcases hn with hn | hn
  all_goals
    go_enter Try.func13, Try.ntmps13
    go_wp2
    go_ret2
    exact ⟨rfl, rfl⟩
theorem set_nil (n : Int) (w : World) :
    Calls Try.prog 13 #[.pointer none, .int .i64 n] w fun e w' => e = .returned (.tuple #[.int .i64 0, .int .i64 1]) ∧ w' = w := by
  go_enter Try.func13, Try.ntmps13
  go_wp2
  go_ret2
  exact ⟨rfl, rfl⟩
end Go.Proofs.Ytjfdmhhglgdfkaa
