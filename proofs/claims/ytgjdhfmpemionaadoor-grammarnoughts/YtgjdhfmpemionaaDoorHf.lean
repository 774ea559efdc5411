/-
  What the law GrammarNoughts does: it returns true.
-/
import Derived.Test.YtgjdhfmpemionaaDoorHe
import Derived.Test.YtgjdhfmpemionaaDoorQa
set_option linter.unusedVariables false
set_option linter.unusedSimpArgs false
set_option maxRecDepth 20000
namespace Go.Proofs.YtgjdhfmpemionaaDoor
open Go.RowKit

theorem B_cut12 (a b : UInt8) (r : List UInt8) : (B (a :: b :: r)).extract 1 2 = B [b] := by
  rw [B_ext]; rfl
theorem B_cut2 (a b : UInt8) (r : List UInt8) : (B (a :: b :: r)).extract 2 (B (a :: b :: r)).size = B r := by
  rw [B_drop]; rfl
theorem cut12_run (s : ByteArray) (h : 2 ≤ s.size) (W : World) : (Instr.slice 9 (.string s) (some (.int .i64 1)) (some (.int .i64 2)) none).run Tryd.prog W = .ok (.string (s.extract 1 2)) W := by
  have h1 : (2 : Int) ≤ s.size := by omega
  simp [Instr.slice, run_underlying Tryd.underlying9, Instr.sliceBounds, run_sliceBound, sliced, h1, h]
set_option maxHeartbeats 8000000 in
theorem noughts_with (N M n k : Nat) (e E : Int) (w : World) (hN : N < 4294967296) (hM : M < 4294967296) (hn : n < 256) (hk : n % 20 = k) (he : -2147483648 ≤ e ∧ e ≤ 2147483647) (hE : Int.tmod e 1000000 + 1000000 = E) (hE1 : 1 ≤ E) (hE2 : E ≤ 1999999)
    (D1 A F X D D2 : List UInt8) (Ep : Int) (hD : D1.length ≤ 21) (hA : A.length ≤ 21) (hF : F.length ≤ 21) (hX : X.length ≤ 21) (hEp : -10000000 ≤ Ep ∧ Ep ≤ 10000000)
    (c15a : ∀ W, Calls Tryd.prog 15 #[.int .u64 N] W fun x w' => x = .returned (.string (B D1)) ∧ Below W.heap.size W w')
    (c14a : ∀ W, Below w.heap.size w W → Calls Tryd.prog 14 #[.agg #[.int .i64 1, .bool false, .bool false, .string (B D1), .int .i64 0]] W fun x w' => x = .returned (.tuple #[.string (B A), .int .i64 0]) ∧ Below W.heap.size W w')
    (c15b : ∀ W, Calls Tryd.prog 15 #[.int .u64 M] W fun x w' => x = .returned (.string (B F)) ∧ Below W.heap.size W w')
    (c14x : ∀ W, Below w.heap.size w W → Calls Tryd.prog 14 #[.agg #[.int .i64 1, .bool false, .bool false, .string ⟨#[]⟩, .int .i64 E]] W fun x w' => x = .returned (.tuple #[.string (B (48 :: 101 :: X)), .int .i64 0]) ∧ Below W.heap.size W w')
    (c9p : ∀ W, Calls Tryd.prog 9 #[.string (B (((A ++ [46]) ++ F) ++ (101 :: X)))] W fun x w' => x = .returned (.tuple #[.agg #[.int .i64 1, .bool false, .bool false, .string (B D), .int .i64 Ep], .int .i64 0]) ∧ Below W.heap.size W w')
    (c9q : ∀ W, Calls Tryd.prog 9 #[.string (B ((((((List.replicate k 48 ++ A) ++ [46]) ++ F) ++ [101]) ++ List.replicate k 48) ++ X))] W fun x w' => x = .returned (.tuple #[.agg #[.int .i64 1, .bool false, .bool false, .string (B D), .int .i64 Ep], .int .i64 0]) ∧ Below W.heap.size W w')
    (c9r : ∀ W, Calls Tryd.prog 9 #[.string (B ((((A ++ [46]) ++ F) ++ List.replicate k 48) ++ (101 :: X)))] W fun x w' => x = .returned (.tuple #[.agg #[.int .i64 1, .bool false, .bool false, .string (B D2), .int .i64 (Ep - k)], .int .i64 0]) ∧ Below W.heap.size W w') :
    Calls Tryd.prog 7 #[.int .u32 N, .int .u32 M, .int .i32 e, .int .u8 n] w fun x w' => x = .returned (.bool true) ∧ Below w.heap.size w w' := by
  have htl := B_toList
  have hsm := cell_set_map
  have c8 := awake7
  have hki : (n : Int) % 20 = k := by omega
  have hk20 : k < 20 := by omega
  have hni : (n : Int) ≤ 255 := by omega
  go_enter Tryd.func7, Tryd.ntmps7
  go_wp2_with (first | (go_at_call 8; refine (c8 _).mono ?_; rintro x w1 ⟨rfl, hb1⟩; obtain ⟨hc1, hf1⟩ := bcell hb1; have hA1 := bnext (w0 := w) (by (repeat (first | with_reducible assumption | with_reducible exact Below.refl _ _ | with_reducible refine Below.setCell ?_ (by first | omega | (dsimp only; omega) | (simp <;> omega)) _ | with_reducible refine Below.alloc ?_ (by first | omega | (simp <;> omega)) _ | with_reducible refine Below.drew ?_))) hb1; have hs1 := hA1.size; clear hb1))
  go_loop [9, 25] (fun s i => ∃ j : Nat, j ≤ k ∧ i = .int .u8 j ∧ s = .string (B (List.replicate j 48))) (fun _ i => k - (intOf i).toNat)
  case atStart => exact ⟨0, Nat.zero_le _, rfl, rfl⟩
  case round =>
    obtain ⟨j, hj, rfl, rfl⟩ := hrel
    by_cases hlt : j < k
    · have hji : (j : Int) < (n : Int) % 20 := by omega
      have hj2 : (j : Int) < 20 := by omega
      have hap : B (List.replicate j 48) ++ (⟨#[48]⟩ : ByteArray) = B (List.replicate (j + 1) 48) := by
        rw [List.replicate_succ']; exact B_app _ [48]
      have hsz : (B (List.replicate j 48)).size = j := by rw [B_size, List.length_replicate]
      have h48 : (⟨#[48]⟩ : ByteArray).size = 1 := rfl
      go_wp2
      go_round
      case rel => exact ⟨j + 1, by omega, by go_num, rfl⟩
      case measure => simp [intOf]; omega
    · obtain rfl : j = k := by omega
      have hji : (n : Int) % 20 ≤ j := by omega
      have hZ : (List.replicate j (48 : UInt8)).length = j := List.length_replicate
      generalize (List.replicate j 48 : List UInt8) = Z at *
      have zZ : (B Z).size = j := by rw [B_size, hZ]
      have zA := B_size A
      have zF := B_size F
      have zX := B_size X
      have z46 : (⟨#[46]⟩ : ByteArray).size = 1 := rfl
      have zx : (B (48 :: 101 :: X)).size = X.length + 2 := B_size _
      have x1 : (B (48 :: 101 :: X)).extract 1 (X.length + 2) = B (101 :: X) := by rw [← zx]; exact B_tail 48 (101 :: X)
      have x2 : (B (48 :: 101 :: X)).extract 1 2 = B [101] := B_cut12 48 101 X
      have hsl : ∀ W : World, (Instr.slice 9 (.string (B (48 :: 101 :: X))) (some (.int .i64 1)) (some (.int .i64 2)) none).run Tryd.prog W = .ok (.string (B [101])) W := fun W => by
        rw [cut12_run _ (by rw [zx]; omega), x2]
      have x3 : (B (48 :: 101 :: X)).extract 2 (X.length + 2) = B X := by rw [← zx]; exact B_cut2 48 101 X
      have z101 : (B (101 :: X)).size = X.length + 1 := B_size _
      have z1 : (B [101]).size = 1 := rfl
      generalize (48 :: 101 :: X : List UInt8) = x0 at *
      have p0 : B A ++ (⟨#[46]⟩ : ByteArray) = B (A ++ [46]) := B_app A [46]
      have l0 : (B (A ++ [46])).size = A.length + 1 := by rw [B_size, List.length_append]; rfl
      generalize (A ++ [46] : List UInt8) = L0 at *
      have p1 : B L0 ++ B F = B (L0 ++ F) := B_app _ _
      have l1 : (B (L0 ++ F)).size = A.length + 1 + F.length := by rw [B_size] at l0 ⊢; rw [List.length_append]; omega
      generalize (L0 ++ F : List UInt8) = L1 at *
      have p2 : B L1 ++ B (101 :: X) = B (L1 ++ (101 :: X)) := B_app _ _
      have p3 : B L1 ++ B Z = B (L1 ++ Z) := B_app _ _
      have l3 : (B (L1 ++ Z)).size = A.length + 1 + F.length + j := by rw [B_size] at l1 ⊢; rw [List.length_append]; omega
      have p4 : B (L1 ++ Z) ++ B (101 :: X) = B ((L1 ++ Z) ++ (101 :: X)) := B_app _ _
      generalize (L1 ++ Z : List UInt8) = L3 at *
      have m0 : B Z ++ B A = B (Z ++ A) := B_app _ _
      have y0 : (B (Z ++ A)).size = j + A.length := by rw [B_size, List.length_append]; omega
      generalize (Z ++ A : List UInt8) = M0 at *
      have m1 : B M0 ++ (⟨#[46]⟩ : ByteArray) = B (M0 ++ [46]) := B_app _ [46]
      have y1 : (B (M0 ++ [46])).size = j + A.length + 1 := by rw [B_size] at y0 ⊢; rw [List.length_append, y0]; rfl
      generalize (M0 ++ [46] : List UInt8) = M1 at *
      have m2 : B M1 ++ B F = B (M1 ++ F) := B_app _ _
      have y2 : (B (M1 ++ F)).size = j + A.length + 1 + F.length := by rw [B_size] at y1 ⊢; rw [List.length_append, y1]
      generalize (M1 ++ F : List UInt8) = M2 at *
      have m3 : B M2 ++ B [101] = B (M2 ++ [101]) := B_app _ _
      have y3 : (B (M2 ++ [101])).size = j + A.length + 1 + F.length + 1 := by rw [B_size] at y2 ⊢; rw [List.length_append, y2]; rfl
      generalize (M2 ++ [101] : List UInt8) = M3 at *
      have m4 : B M3 ++ B Z = B (M3 ++ Z) := B_app _ _
      have y4 : (B (M3 ++ Z)).size = j + A.length + 1 + F.length + 1 + j := by rw [B_size] at y3 ⊢; rw [List.length_append, y3, hZ]
      generalize (M3 ++ Z : List UInt8) = M4 at *
      have m5 : B M4 ++ B X = B (M4 ++ X) := B_app _ _
      generalize (M4 ++ X : List UInt8) = M5 at *
      generalize (L1 ++ (101 :: X) : List UInt8) = P at *
      generalize (L3 ++ (101 :: X) : List UInt8) = R at *
      generalize (101 :: X : List UInt8) = X1 at *
      generalize B [101] = o1 at *
      clear hZ
      have hNi : (N : Int) ≤ 4294967295 := by omega
      have hMi : (M : Int) ≤ 4294967295 := by omega
      obtain ⟨he1, he2⟩ := he
      obtain ⟨hq1, hq2⟩ := hEp
      go_wp2_with (first | (go_at_call 15; refine (c15a _).mono ?_; rintro x w2 ⟨rfl, hb2⟩; obtain ⟨hc2, hf2⟩ := bcell hb2; have hA2 := bnext (w0 := w) (by (repeat (first | with_reducible assumption | with_reducible exact Below.refl _ _ | with_reducible refine Below.setCell ?_ (by first | omega | (dsimp only; omega) | (simp <;> omega)) _ | with_reducible refine Below.alloc ?_ (by first | omega | (simp <;> omega)) _ | with_reducible refine Below.drew ?_))) hb2; have hs2 := hA2.size; clear hb2))
      go_wp2_with (first | (go_at_call 14; refine (c14a _ hA2).mono ?_; rintro x w3 ⟨rfl, hb3⟩; obtain ⟨hc3, hf3⟩ := bcell hb3; have hA3 := bnext (w0 := w) (by (repeat (first | with_reducible assumption | with_reducible exact Below.refl _ _ | with_reducible refine Below.setCell ?_ (by first | omega | (dsimp only; omega) | (simp <;> omega)) _ | with_reducible refine Below.alloc ?_ (by first | omega | (simp <;> omega)) _ | with_reducible refine Below.drew ?_))) hb3; have hs3 := hA3.size; clear hb3))
      go_wp2_with (first | (go_at_call 15; refine (c15b _).mono ?_; rintro x w4 ⟨rfl, hb4⟩; obtain ⟨hc4, hf4⟩ := bcell hb4; have hA4 := bnext (w0 := w) (by (repeat (first | with_reducible assumption | with_reducible exact Below.refl _ _ | with_reducible refine Below.setCell ?_ (by first | omega | (dsimp only; omega) | (simp <;> omega)) _ | with_reducible refine Below.alloc ?_ (by first | omega | (simp <;> omega)) _ | with_reducible refine Below.drew ?_))) hb4; have hs4 := hA4.size; clear hb4))
      go_wp2_with (first | (go_at_call 14; refine (c14x _ hA4).mono ?_; rintro x w5 ⟨rfl, hb5⟩; obtain ⟨hc5, hf5⟩ := bcell hb5; have hA5 := bnext (w0 := w) (by (repeat (first | with_reducible assumption | with_reducible exact Below.refl _ _ | with_reducible refine Below.setCell ?_ (by first | omega | (dsimp only; omega) | (simp <;> omega)) _ | with_reducible refine Below.alloc ?_ (by first | omega | (simp <;> omega)) _ | with_reducible refine Below.drew ?_))) hb5; have hs5 := hA5.size; clear hb5))
      go_wp2_with (first | (go_at_call 9; refine (c9p _).mono ?_; rintro x w6 ⟨rfl, hb6⟩; obtain ⟨hc6, hf6⟩ := bcell hb6; have hA6 := bnext (w0 := w) (by (repeat (first | with_reducible assumption | with_reducible exact Below.refl _ _ | with_reducible refine Below.setCell ?_ (by first | omega | (dsimp only; omega) | (simp <;> omega)) _ | with_reducible refine Below.alloc ?_ (by first | omega | (simp <;> omega)) _ | with_reducible refine Below.drew ?_))) hb6; have hs6 := hA6.size; clear hb6))
      clear c15a c14a c15b c14x c9p
      have HP : Hid ((B A ++ (⟨#[46]⟩ : ByteArray) = B L0) ∧ (B L0 ++ B F = B L1) ∧ (B L1 ++ B Z = B L3) ∧ (B L3 ++ B X1 = B R) ∧ ((B L0).size = A.length + 1) ∧ ((B L1).size = A.length + 1 + F.length) ∧ ((B L3).size = A.length + 1 + F.length + j) ∧ ((B x0).extract 1 (X.length + 2) = B X1) ∧ ((B X1).size = X.length + 1)) := ⟨p0, p1, p3, p4, l0, l1, l3, x1, z101⟩
      have HC : Hid (∀ W, Calls Tryd.prog 9 #[.string (B R)] W fun x w' => x = .returned (.tuple #[.agg #[.int .i64 1, .bool false, .bool false, .string (B D2), .int .i64 (Ep - j)], .int .i64 0]) ∧ Below W.heap.size W w') := c9r
      have HK : Hid ((n : Int) % 20 = j ∧ (n : Int) ≤ 255) := ⟨hki, hni⟩
      have HS : Hid (∀ (W : World) (b i : Nat) (v : Value), (W.setCell ⟨b, i, none⟩ v).cell? ⟨b, i, none⟩ = (W.cell? ⟨b, i, none⟩).map fun _ => v) := hsm
      clear p0 p1 p2 p3 p4 l0 l1 l3 x1 z101 c9r x2 hn hN hM hE hE1 hE2 hNi hMi he1 he2 hD hA1 hA2 hA3 hA4 hA5 hc1 hf1 hc2 hf2 hc3 hf3 hc4 hf4 hc5 hf5 hc6 hf6 htl hsm c8 hk hki hji hlt hj hni
      refine wp_made 15 18 17 #[.int .i64 0, .bool false, .bool false, .string ⟨#[]⟩, .int .i64 0] (by kernel_rfl) (by kernel_rfl) (by kernel_rfl) rfl (fun oa hoa a w => ?_) (by kernel_rfl) (by kernel_rfl) rfl rfl (fun _ _ d _ _ h => by cases d <;> exact h) ?_
      · cases hoa; exact ⟨24, by simp [go_sem]⟩
      apply Exists.intro
      refine ⟨fun al hne hcell => ?_, fun w7 hb7 => ?_, fun g w7 hb7 hg0 hg1 hg2 hg3 => ?_⟩
      · simp only [List.take_succ_cons, List.take_zero]
        repeat go_big_quiet_step (fail)
        go_big_quiet_step ((go_at_call 9; exact calls_wd _ al_next (c9q _)))
        exact wpQuiet_nil rfl
      · simp only [List.drop_succ_cons, List.drop_zero]
        obtain ⟨p0, p1, p3, p4, l0, l1, l3, x1, z101⟩ := HP.out
        obtain ⟨hki, hni⟩ := HK.out
        have c9r := HC.out
        have hsm := HS.out
        clear HP HC HK HS m0 m1 m2 m3 m4 m5 y0 y1 y2 y3 y4 hsl x3 c9q
        obtain ⟨hc7, hf7⟩ := bcell hb7; have hz7_0 : w6.heap.size < w7.heap.size := lt_below hb7 (by first | with_reducible assumption | (simp; done) | (simp; omega)); have hl7_0 := Nat.le_of_lt hz7_0; have hA7 := bnext (w0 := w) (by (repeat (first | with_reducible assumption | with_reducible exact Below.refl _ _ | with_reducible refine Below.setCell ?_ (by first | omega | (dsimp only; omega) | (simp <;> omega)) _ | with_reducible refine Below.alloc ?_ (by first | omega | (simp <;> omega)) _ | with_reducible refine Below.drew ?_))) hb7; have hs7 := hA7.size; clear hb7
        go_wp2_with (first | (go_at_call 9; refine (c9r _).mono ?_; rintro x w8 ⟨rfl, hb8⟩; obtain ⟨hc8, hf8⟩ := bcell hb8; have hz8_0 : w6.heap.size < w8.heap.size := lt_below hb8 (by first | with_reducible assumption | (simp; done) | (simp; omega)); have hl8_0 := Nat.le_of_lt hz8_0; have hz8_1 : w7.heap.size < w8.heap.size := lt_below hb8 (by first | with_reducible assumption | (simp; done) | (simp; omega)); have hl8_1 := Nat.le_of_lt hz8_1; have hA8 := bnext (w0 := w) (by (repeat (first | with_reducible assumption | with_reducible exact Below.refl _ _ | with_reducible refine Below.setCell ?_ (by first | omega | (dsimp only; omega) | (simp <;> omega)) _ | with_reducible refine Below.alloc ?_ (by first | omega | (simp <;> omega)) _ | with_reducible refine Below.drew ?_))) hb8; have hs8 := hA8.size; clear hb8))
        go_ret
        exact ⟨rfl, by (repeat (first | with_reducible assumption | with_reducible exact Below.refl _ _ | with_reducible refine Below.setCell ?_ (by first | omega | (dsimp only; omega) | (simp <;> omega)) _ | with_reducible refine Below.alloc ?_ (by first | omega | (simp <;> omega)) _ | with_reducible refine Below.drew ?_))⟩
      · simp only [List.drop_succ_cons, List.drop_zero, Nat.reduceSub, List.eraseIdx_cons_succ, List.eraseIdx_cons_zero]
        obtain ⟨p0, p1, p3, p4, l0, l1, l3, x1, z101⟩ := HP.out
        obtain ⟨hki, hni⟩ := HK.out
        have c9r := HC.out
        have hsm := HS.out
        clear HP HC HK HS m0 m1 m2 m3 m4 m5 y0 y1 y2 y3 y4 hsl x3 c9q
        have hz0 : g ≠ w6.heap.size := by have := hg0; simp at this; omega
        have hgg : w6.heap.size < g := by have := hg0; simp at this; omega
        have q0 : w7.cell? ⟨g, 0, none⟩ = some (.int .i64 0) := hg2 0
        have q1 : w7.cell? ⟨g, 1, none⟩ = some (.bool false) := hg2 1
        have q2 : w7.cell? ⟨g, 2, none⟩ = some (.bool false) := hg2 2
        have q3 : w7.cell? ⟨g, 3, none⟩ = some (.string ⟨#[]⟩) := hg2 3
        have q4 : w7.cell? ⟨g, 4, none⟩ = some (.int .i64 0) := hg2 4
        have f0 := hg3 0
        have f1 := hg3 1
        have f2 := hg3 2
        have f3 := hg3 3
        have f4 := hg3 4
        clear hg2 hg3
        obtain ⟨hc7, hf7⟩ := bcell hb7; have hz7_0 : w6.heap.size < w7.heap.size := lt_below hb7 (by first | with_reducible assumption | (simp; done) | (simp; omega)); have hl7_0 := Nat.le_of_lt hz7_0; have hA7 := bnext (w0 := w) (by (repeat (first | with_reducible assumption | with_reducible exact Below.refl _ _ | with_reducible refine Below.setCell ?_ (by first | omega | (dsimp only; omega) | (simp <;> omega)) _ | with_reducible refine Below.alloc ?_ (by first | omega | (simp <;> omega)) _ | with_reducible refine Below.drew ?_))) hb7; have hs7 := hA7.size; clear hb7
        go_wp2_with (first | (go_at_call 9; refine (c9r _).mono ?_; rintro x w8 ⟨rfl, hb8⟩; obtain ⟨hc8, hf8⟩ := bcell hb8; have hz8_0 : w6.heap.size < w8.heap.size := lt_below hb8 (by first | with_reducible assumption | (simp; done) | (simp; omega)); have hl8_0 := Nat.le_of_lt hz8_0; have hz8_1 : g < w8.heap.size := lt_below hb8 (by first | with_reducible assumption | (simp; done) | (simp; omega)); have hl8_1 := Nat.le_of_lt hz8_1; have hA8 := bnext (w0 := w) (by (repeat (first | with_reducible assumption | with_reducible exact Below.refl _ _ | with_reducible refine Below.setCell ?_ (by first | omega | (dsimp only; omega) | (simp <;> omega)) _ | with_reducible refine Below.alloc ?_ (by first | omega | (simp <;> omega)) _ | with_reducible refine Below.drew ?_))) hb8; have hs8 := hA8.size; clear hb8))
        go_ret
        exact ⟨rfl, by (repeat (first | with_reducible assumption | with_reducible exact Below.refl _ _ | with_reducible refine Below.setCell ?_ (by first | omega | (dsimp only; omega) | (simp <;> omega)) _ | with_reducible refine Below.alloc ?_ (by first | omega | (simp <;> omega)) _ | with_reducible refine Below.drew ?_))⟩
theorem tmod_bd (e : Int) : -1000000 < Int.tmod e 1000000 ∧ Int.tmod e 1000000 < 1000000 := by
  rcases Int.le_total 0 e with h | h
  · rw [Int.tmod_eq_emod_of_nonneg h]; omega
  · obtain ⟨y, rfl⟩ : ∃ y, e = -y := ⟨-e, by omega⟩
    rw [Int.neg_tmod, Int.tmod_eq_emod_of_nonneg (by omega)]; omega
theorem grammarNoughts_any (z0 z1 z2 z3 : Int) (w : World) (hT : Tb10 w) (b0 : 0 ≤ z0 ∧ z0 ≤ 4294967295) (b1 : 0 ≤ z1 ∧ z1 ≤ 4294967295) (b2 : -2147483648 ≤ z2 ∧ z2 ≤ 2147483647) (b3 : 0 ≤ z3 ∧ z3 ≤ 255) :
    Calls Tryd.prog 7 #[.int .u32 z0, .int .u32 z1, .int .i32 z2, .int .u8 z3] w fun x w' => x = .returned (.bool true) ∧ Below w.heap.size w w' := by
  obtain ⟨N, rfl⟩ := Int.eq_ofNat_of_zero_le b0.1
  obtain ⟨M, rfl⟩ := Int.eq_ofNat_of_zero_le b1.1
  obtain ⟨n, rfl⟩ := Int.eq_ofNat_of_zero_le b3.1
  have hN : N < 4294967296 := by omega
  have hM : M < 4294967296 := by omega
  have hn : n < 256 := by omega
  have htm := tmod_bd z2
  generalize hE : Int.tmod z2 1000000 + 1000000 = E
  have hE1 : 1 ≤ E := by omega
  have hE2 : E ≤ 1999999 := by omega
  have hlN := dgN_len hN
  have hlM := dgN_len hM
  obtain ⟨a1, a2, a3⟩ := gdD_dgT (dgN_gd N)
  have hF := gdD_all (dgN_gd M)
  have hlA : (dgT (dgN N)).length ≤ 21 := by
    unfold dgT; split
    · simp
    · exact hlN
  have hi : Lib.itoa E = Lib.decDigits E.toNat := by unfold Lib.itoa; rw [if_neg (by omega)]
  have hlX : (Lib.itoa E).length ≤ 21 := Lib.itoa_length_le E (by omega) (by omega)
  have hX : isd (Lib.itoa E) = true := by rw [hi]; exact dec_isd _
  have hv : nv (Lib.itoa E) = E := by rw [hi, dec_nv]; omega
  have tA : texT 1 false false (dgN N) 0 = dgT (dgN N) := by
    show [] ++ (dgT (dgN N) ++ []) = _
    simp
  have tX : texT 1 false false [] E = 48 :: 101 :: Lib.itoa E := by
    show [] ++ ([48] ++ exT E) = _
    unfold exT; rw [if_neg (by omega)]; rfl
  have hk20 : n % 20 < 20 := by omega
  have c14a := fun W (hb : Below w.heap.size w W) => rjoin_y ⟨1, false, false, dgN N, 0⟩ W (show (dgN N).length < 100000 by omega) (show -9223372036854775808 ≤ (0 : Int) ∧ (0 : Int) ≤ 9223372036854775807 by omega) (hT.next hb)
    ⟨dgN_gd N, Or.inl ⟨rfl, rfl, (show -1000000000 ≤ (0 : Int) ∧ (0 : Int) ≤ 1000000000 by omega), show (texT 1 false false (dgN N) 0).length ≤ 4000 by rw [tA]; omega⟩⟩
  have c14x := fun W (hb : Below w.heap.size w W) => rjoin_y ⟨1, false, false, [], E⟩ W (show ([] : List UInt8).length < 100000 by simp) (show -9223372036854775808 ≤ E ∧ E ≤ 9223372036854775807 by omega) (hT.next hb)
    ⟨Or.inl rfl, Or.inl ⟨rfl, rfl, (show -1000000000 ≤ E ∧ E ≤ 1000000000 by omega), show (texT 1 false false [] E).length ≤ 4000 by rw [tX]; simp only [List.length_cons]; omega⟩⟩
  dsimp only at c14a c14x
  rw [tA] at c14a
  rw [tX] at c14x
  generalize hZ : List.replicate (n % 20) (48 : UInt8) = Z
  have lZ : Z.length = n % 20 := by rw [← hZ, List.length_replicate]
  have dZ : Z.all dg = true := by rw [← hZ]; exact rep_dg _
  have bZ : ∀ l, bar (Z ++ l) = bar l := fun l => by rw [← hZ]; exact bar_rep _ l
  have nZ : ∀ l, nv (Z ++ l) = nv l := fun l => by rw [← hZ]; exact nv_rep _ l
  generalize hA : dgT (dgN N) = A at *
  generalize hFd : dgN M = F at *
  generalize hXd : Lib.itoa E = X at *
  have hXa := isd_all hX
  have hvX : vc X = E := by unfold vc; rw [hv]; omega
  have hZX : isd (Z ++ X) = true := by
    unfold isd at hX ⊢
    rw [Bool.and_eq_true] at hX
    rw [List.all_append, dZ, hX.1]
    cases Z with
    | nil => rw [List.nil_append, hX.2]; rfl
    | cons c r => rfl
  have hvZX : vc (Z ++ X) = E := by unfold vc; rw [nZ, hv]; omega
  have hpl : (A ++ 46 :: (F ++ 101 :: X)).length ≤ 4000 := by simp only [List.length_append, List.length_cons]; omega
  have hql : ((Z ++ A) ++ 46 :: (F ++ 101 :: (Z ++ X))).length ≤ 4000 := by simp only [List.length_append, List.length_cons]; omega
  have hrl : (A ++ 46 :: ((F ++ Z) ++ 101 :: X)).length ≤ 4000 := by simp only [List.length_append, List.length_cons]; omega
  have hp := cutE_some (cut_point a1 a2 hF hX hpl)
  have hq := cutE_some (cut_point (A := Z ++ A) (by rw [List.all_append, dZ, a1]; rfl) (by simp [a2]) hF hZX hql)
  have hr := cutE_some (cut_point (F := F ++ Z) a1 a2 (by rw [List.all_append, dZ, hF]; rfl) hX hrl)
  rw [hvX] at hp hr
  rw [hvZX, List.append_assoc Z A F, bZ] at hq
  have e1 : clampE (E - F.length) = E - F.length := by unfold clampE; omega
  have e2 : clampE (E - (F ++ Z).length) = E - F.length - ((n % 20 : Nat) : Int) := by
    rw [List.length_append, lZ]; unfold clampE; omega
  rw [e1] at hp hq
  rw [e2] at hr
  have c9p := fun W => cut_any (A ++ 46 :: (F ++ 101 :: X)) W (by omega)
  have c9q := fun W => cut_any ((Z ++ A) ++ 46 :: (F ++ 101 :: (Z ++ X))) W (by omega)
  have c9r := fun W => cut_any (A ++ 46 :: ((F ++ Z) ++ 101 :: X)) W (by omega)
  rw [hp.1, hp.2] at c9p
  rw [hq.1, hq.2] at c9q
  rw [hr.1, hr.2] at c9r
  have s1 : A ++ 46 :: (F ++ 101 :: X) = ((A ++ [46]) ++ F) ++ (101 :: X) := by simp
  have s2 : (Z ++ A) ++ 46 :: (F ++ 101 :: (Z ++ X)) = (((((Z ++ A) ++ [46]) ++ F) ++ [101]) ++ Z) ++ X := by simp
  have s3 : A ++ 46 :: ((F ++ Z) ++ 101 :: X) = (((A ++ [46]) ++ F) ++ Z) ++ (101 :: X) := by simp
  rw [s1] at c9p
  rw [s2] at c9q
  rw [s3] at c9r
  have c15a := fun W => digits_any N W hN
  have c15b := fun W => digits_any M W hM
  rw [hFd] at c15b
  subst hZ
  exact noughts_with N M n (n % 20) z2 E w hN hM hn rfl b2 hE hE1 hE2 (dgN N) A F X (bar (A ++ F)) (bar (A ++ (F ++ List.replicate (n % 20) 48))) (E - F.length) hlN hlA hlM hlX (by omega) c15a c14a c15b c14x c9p c9q c9r
end Go.Proofs.YtgjdhfmpemionaaDoor
