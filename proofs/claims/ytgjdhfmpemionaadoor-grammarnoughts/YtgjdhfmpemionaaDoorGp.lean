/-
  What the law GrammarCuts does: it returns true.
-/
import Derived.Test.YtgjdhfmpemionaaDoorGn
import Derived.Test.YtgjdhfmpemionaaDoorQt
set_option linter.unusedVariables false
set_option linter.unusedSimpArgs false
set_option maxRecDepth 20000
namespace Go.Proofs.YtgjdhfmpemionaaDoor
open Go.RowKit

theorem awk_V : cutV [45, 49, 46, 53, 48, 101, 51] = ⟨1, true, false, [49, 53, 48], 1⟩ := by rfl
theorem awk_E : cutE [45, 49, 46, 53, 48, 101, 51] = 0 := by rfl
set_option maxHeartbeats 1000000 in
theorem awake7 (w : World) : Calls Tryd.prog 8 #[] w fun x w' => x = .returned (.bool true) ∧ Below w.heap.size w w' := by
  have htl := B_toList
  have c9 : ∀ w, Calls Tryd.prog 9 #[.string ⟨#[45, 49, 46, 53, 48, 101, 51]⟩] w fun e w' => e = .returned (.tuple #[.agg #[.int .i64 1, .bool true, .bool false, .string (B [49, 53, 48]), .int .i64 1], .int .i64 0]) ∧ Below w.heap.size w w' := fun w => by
    have := cut_any [45, 49, 46, 53, 48, 101, 51] w (by decide)
    rw [awk_V, awk_E] at this
    exact this
  have hsm := cell_set_map
  go_enter Tryd.func8, Tryd.ntmps8
  go_wp2_with (first | (go_at_call 9; refine (c9 _).mono ?_; rintro x w1 ⟨rfl, hb1⟩; obtain ⟨hc1, hf1⟩ := bcell hb1; have hA1 := bnext (w0 := w) (by (repeat (first | with_reducible assumption | with_reducible exact Below.refl _ _ | with_reducible refine Below.setCell ?_ (by first | omega | (dsimp only; omega) | (simp <;> omega)) _ | with_reducible refine Below.alloc ?_ (by first | omega | (simp <;> omega)) _ | with_reducible refine Below.drew ?_))) hb1; have hs1 := hA1.size; clear hb1))
  go_ret
  exact ⟨rfl, by (repeat (first | with_reducible assumption | with_reducible exact Below.refl _ _ | with_reducible refine Below.setCell ?_ (by first | omega | (dsimp only; omega) | (simp <;> omega)) _ | with_reducible refine Below.alloc ?_ (by first | omega | (simp <;> omega)) _ | with_reducible refine Below.drew ?_))⟩
set_option maxHeartbeats 1000000 in
theorem ours_any (c : Int) (s g : Bool) (d : List UInt8) (e : Int) (w : World) : Calls Tryd.prog 11 #[PV c s g d e] w fun x w' => x = .returned (PV c s g d e) ∧ Below w.heap.size w w' := by
  unfold PV
  go_enter Tryd.func11, Tryd.ntmps11
  go_wp2
  exact bodyPost_ret (v := .agg #[.int .i64 c, .bool s, .bool g, .string (B d), .int .i64 e]) (by simp only [results, Tryd.results11]; go_simp) rfl ⟨rfl, by (repeat (first | with_reducible assumption | with_reducible exact Below.refl _ _ | with_reducible refine Below.setCell ?_ (by first | omega | (dsimp only; omega) | (simp <;> omega)) _ | with_reducible refine Below.alloc ?_ (by first | omega | (simp <;> omega)) _ | with_reducible refine Below.drew ?_))⟩
set_option maxHeartbeats 1000000 in
theorem theirs_any (c : Int) (s g : Bool) (d : List UInt8) (e : Int) (w : World) : Calls Tryd.prog 13 #[PV c s g d e] w fun x w' => x = .returned (PV c s g d e) ∧ Below w.heap.size w w' := by
  unfold PV
  go_enter Tryd.func13, Tryd.ntmps13
  go_wp2
  exact bodyPost_ret (v := .agg #[.int .i64 c, .bool s, .bool g, .string (B d), .int .i64 e]) (by simp only [results, Tryd.results13]; go_simp) rfl ⟨rfl, by (repeat (first | with_reducible assumption | with_reducible exact Below.refl _ _ | with_reducible refine Below.setCell ?_ (by first | omega | (dsimp only; omega) | (simp <;> omega)) _ | with_reducible refine Below.alloc ?_ (by first | omega | (simp <;> omega)) _ | with_reducible refine Below.drew ?_))⟩
set_option maxHeartbeats 2000000 in
theorem grammarCuts_any (l : List UInt8) (w : World) : Calls Tryd.prog 3 #[.string (B l)] w fun x w' => x = .returned (.bool true) ∧ Below w.heap.size w w' := by
  have htl := B_toList
  have hsz := B_size l
  have c8 := awake7
  by_cases h : 10000 < l.length
  · have hi : (10000 : Int) < l.length := by omega
    go_enter Tryd.func3, Tryd.ntmps3
    have hB : Below w.heap.size w w := Below.refl _ _
    go_wp2_with (first | (go_at_call 8; refine (c8 _).mono ?_; rintro x w1 ⟨rfl, hb1⟩; replace hB := bnext hB hb1; clear hb1))
    go_ret
    exact ⟨rfl, hB⟩
  · have hi : (l.length : Int) ≤ 10000 := by omega
    have c9 := fun w => cut_any l w (by omega)
    have c10 := fun w => rcut_any l w (by omega)
    unfold Prt.v PV at c9 c10
    have c11 := fun c s g d e w => ours_any c s g d e w
    unfold PV at c11
    generalize (cutV l).cls = C at *
    generalize (cutV l).sg = S at *
    generalize (cutV l).sn = G at *
    generalize (cutV l).dig = D at *
    generalize (cutV l).ex = X at *
    generalize cutE l = E at *
    have hsm := cell_set_map
    go_enter Tryd.func3, Tryd.ntmps3
    go_wp2_with (first | (go_at_call 8; refine (c8 _).mono ?_; rintro x w1 ⟨rfl, hb1⟩; obtain ⟨hc1, hf1⟩ := bcell hb1; have hA1 := bnext (w0 := w) (by (repeat (first | with_reducible assumption | with_reducible exact Below.refl _ _ | with_reducible refine Below.setCell ?_ (by first | omega | (dsimp only; omega) | (simp <;> omega)) _ | with_reducible refine Below.alloc ?_ (by first | omega | (simp <;> omega)) _ | with_reducible refine Below.drew ?_))) hb1; have hs1 := hA1.size; clear hb1) | (go_at_call 9; refine (c9 _).mono ?_; rintro x w2 ⟨rfl, hb2⟩; obtain ⟨hc2, hf2⟩ := bcell hb2; have hA2 := bnext (w0 := w) (by (repeat (first | with_reducible assumption | with_reducible exact Below.refl _ _ | with_reducible refine Below.setCell ?_ (by first | omega | (dsimp only; omega) | (simp <;> omega)) _ | with_reducible refine Below.alloc ?_ (by first | omega | (simp <;> omega)) _ | with_reducible refine Below.drew ?_))) hb2; have hs2 := hA2.size; clear hb2) | (go_at_call 10; refine (c10 _).mono ?_; rintro x w3 ⟨rfl, hb3⟩; obtain ⟨hc3, hf3⟩ := bcell hb3; have hz3_0 : w2.heap.size < w3.heap.size := lt_below hb3 (by first | with_reducible assumption | (simp; done) | (simp; omega)); have hl3_0 := Nat.le_of_lt hz3_0; have hA3 := bnext (w0 := w) (by (repeat (first | with_reducible assumption | with_reducible exact Below.refl _ _ | with_reducible refine Below.setCell ?_ (by first | omega | (dsimp only; omega) | (simp <;> omega)) _ | with_reducible refine Below.alloc ?_ (by first | omega | (simp <;> omega)) _ | with_reducible refine Below.drew ?_))) hb3; have hs3 := hA3.size; clear hb3))
    refine wp_whole (by kernel_rfl) (by kernel_rfl) fun hne hcell => ?_
    repeat go_big_quiet_step (fail)
    go_big_quiet_step ((go_at_call 11; exact calls_wd _ bk_next (c11 _ _ _ _ _ _)))
    repeat go_big_quiet_step (fail)
    refine wpQuiet_nil fun w5 hb5 => ?_
    go_wp2
    go_ret
    exact ⟨rfl, bnext (by (repeat (first | with_reducible assumption | with_reducible exact Below.refl _ _ | with_reducible refine Below.setCell ?_ (by first | omega | (dsimp only; omega) | (simp <;> omega)) _ | with_reducible refine Below.alloc ?_ (by first | omega | (simp <;> omega)) _ | with_reducible refine Below.drew ?_))) hb5⟩
end Go.Proofs.YtgjdhfmpemionaaDoor
