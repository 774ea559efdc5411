/-
  What the law GrammarCases does: it returns true.
-/
import Derived.Test.YtgjdhfmpemionaaDoorGp
import Derived.Test.YtgjdhfmpemionaaDoorGr
import Derived.Test.YtgjdhfmpemionaaDoorLf
set_option linter.unusedVariables false
set_option linter.unusedSimpArgs false
set_option maxRecDepth 20000
namespace Go.Proofs.YtgjdhfmpemionaaDoor
open Go.RowKit

theorem By.next {g n : Nat} {x : Nat → Int} {W W' : World} (h : By g n x W) (hb : Below W.heap.size W W') : By g n x W' :=
  ⟨Nat.lt_of_lt_of_le h.lt hb.size, fun j hj => (hb.cell (p := ⟨g, j, none⟩) h.lt).trans (h.cell j hj), fun j hj => (hb.frozen (p := ⟨g, j, none⟩) h.lt).trans (h.frz j hj)⟩
set_option maxHeartbeats 4000000 in
theorem cases_loop (l : List UInt8) (u : Int) (w : World) (hl : l.length ≤ 3000) (hu : 0 ≤ u ∧ u ≤ 18446744073709551615) : Calls Tryd.prog 6 #[.string (B l), .int .u64 u] w fun x w' => x = .returned (.bool true) ∧ Below w.heap.size w w' := by
  have htl := B_toList
  have hsz := B_size l
  have c8 := awake7
  have hi : (l.length : Int) ≤ 3000 := by omega
  have hcv := fun w => run_bytes_of_string (P := Tryd.prog) w 9 40 5 (B l) Tryd.underlying9 Tryd.underlying40 Tryd.underlying5
  simp only [hsz] at hcv
  go_enter Tryd.func6, Tryd.ntmps6
  go_wp2_with (first | (go_at_call 8; refine (c8 _).mono ?_; rintro x w1 ⟨rfl, hb1⟩; obtain ⟨hc1, hf1⟩ := bcell hb1; have hA1 := bnext (w0 := w) (by (repeat (first | with_reducible assumption | with_reducible exact Below.refl _ _ | with_reducible refine Below.setCell ?_ (by first | omega | (dsimp only; omega) | (simp <;> omega)) _ | with_reducible refine Below.alloc ?_ (by first | omega | (simp <;> omega)) _ | with_reducible refine Below.drew ?_))) hb1; have hs1 := hA1.size; clear hb1))
  clear hcv
  generalize grownCap w1 l.length 0 5 = cap at *
  have HY : By w1.heap.size l.length (by_ l) (w1.alloc (.cells (bytesRow (B l) cap) 5 ((bytesRow (B l) cap).size, (bytesRow (B l) cap).size + 1))).drew := By.of
  have HB : Below w.heap.size w (w1.alloc (.cells (bytesRow (B l) cap) 5 ((bytesRow (B l) cap).size, (bytesRow (B l) cap).size + 1))).drew := (hA1.alloc hs1 _).drew
  generalize (w1.alloc (.cells (bytesRow (B l) cap) 5 ((bytesRow (B l) cap).size, (bytesRow (B l) cap).size + 1))).drew = W at *
  generalize hg : w1.heap.size = g at *
  clear hc1 hf1 hA1
  go_loopw [6, 26] (fun u6 i wr => ∃ (k : Nat) (m : List UInt8), k ≤ l.length ∧ i = .int .i64 k ∧ Cs l m ∧ By g l.length (by_ m) wr ∧ Below w.heap.size w wr) (fun _ i _ => l.length - (intOf i).toNat)
  case atStart => exact ⟨0, l, Nat.zero_le _, rfl, Cs.refl l, HY, HB⟩
  case round =>
    clear HY HB
    obtain ⟨k, m, hk, rfl, hC, hY, hB⟩ := hrel
    have hml := hC.len
    by_cases hlt : k < l.length
    · have hki : (k : Int) < l.length := by omega
      have hc := hY.cell k hlt
      have hf := hY.frz k hlt
      have hkm : k < m.length := by omega
      rw [← by_get hkm] at hc
      have HC : Hid (Cs l m) := hC
      have HY : Hid (By g l.length (by_ m) wr) := hY
      have HB : Hid (Below w.heap.size w wr) := hB
      have HF : Hid (ltr (m[k]'hkm) → Cs l (m.set k (flp (m[k]'hkm)))) := fun h => hC.set k _ hkm h (flp_ltr _ h).1 (flp_ltr _ h).2
      have HG : Hid (∀ j, j < l.length → (if j = k then ((flp (m[k]'hkm)).toNat : Int) else by_ m j) = by_ (m.set k (flp (m[k]'hkm))) j) := fun j hj => by
        unfold by_
        have hj' : j < (m.set k (flp (m[k]'hkm))).length := by simp; omega
        rw [dif_pos hj']
        by_cases e : j = k
        · subst e; rw [if_pos rfl]; simp
        · rw [if_neg e, dif_pos (by omega), List.getElem_set_ne (fun h => e h.symm)]
      have HL : Hid (ltr (m[k]'hkm) ↔ (65 ≤ ((m[k]'hkm).toNat : Int) ∧ ((m[k]'hkm).toNat : Int) ≤ 90) ∨ (97 ≤ ((m[k]'hkm).toNat : Int) ∧ ((m[k]'hkm).toNat : Int) ≤ 122)) := by
        show _ ↔ _
        unfold ltr; omega
      have hxr := flp_val (m[k]'hkm)
      have hb255 := (m[k]'hkm).toNat_lt
      clear hY hB hC
      generalize (m[k]'hkm) = c at *
      by_cases h1 : 97 ≤ (c.toNat : Int)
      · by_cases h2 : (c.toNat : Int) ≤ 122
        · go_wp2
          all_goals
            first
            | exact ⟨⟨k + 1, m.set k (flp c), by omega, by go_num, HF.out (HL.out.2 (by omega)), (HY.out.set k _).cong fun j hj => HG.out j hj, HB.out.setCell hs1 _⟩, by simp [intOf]; omega⟩
            | exact ⟨⟨k + 1, m, by omega, by go_num, HC.out, HY.out, HB.out⟩, by simp [intOf]; omega⟩
        · have h2' : (122 : Int) < c.toNat := by omega
          go_wp2
          all_goals
            first
            | exact ⟨⟨k + 1, m.set k (flp c), by omega, by go_num, HF.out (HL.out.2 (by omega)), (HY.out.set k _).cong fun j hj => HG.out j hj, HB.out.setCell hs1 _⟩, by simp [intOf]; omega⟩
            | exact ⟨⟨k + 1, m, by omega, by go_num, HC.out, HY.out, HB.out⟩, by simp [intOf]; omega⟩
      · by_cases h2 : (c.toNat : Int) ≤ 90
        · by_cases h3 : 65 ≤ (c.toNat : Int)
          · go_wp2
            all_goals
              first
              | exact ⟨⟨k + 1, m.set k (flp c), by omega, by go_num, HF.out (HL.out.2 (by omega)), (HY.out.set k _).cong fun j hj => HG.out j hj, HB.out.setCell hs1 _⟩, by simp [intOf]; omega⟩
              | exact ⟨⟨k + 1, m, by omega, by go_num, HC.out, HY.out, HB.out⟩, by simp [intOf]; omega⟩
          · go_wp2
            all_goals
              first
              | exact ⟨⟨k + 1, m.set k (flp c), by omega, by go_num, HF.out (HL.out.2 (by omega)), (HY.out.set k _).cong fun j hj => HG.out j hj, HB.out.setCell hs1 _⟩, by simp [intOf]; omega⟩
              | exact ⟨⟨k + 1, m, by omega, by go_num, HC.out, HY.out, HB.out⟩, by simp [intOf]; omega⟩
        · go_wp2
          all_goals
            first
            | exact ⟨⟨k + 1, m.set k (flp c), by omega, by go_num, HF.out (HL.out.2 (by omega)), (HY.out.set k _).cong fun j hj => HG.out j hj, HB.out.setCell hs1 _⟩, by simp [intOf]; omega⟩
            | exact ⟨⟨k + 1, m, by omega, by go_num, HC.out, HY.out, HB.out⟩, by simp [intOf]; omega⟩
    · obtain rfl : k = l.length := by omega
      have hbk := back_any (l := m) (cap := cap) hml hY fun j hj => rfl
      obtain ⟨q1, q2⟩ := hC.cut
      have c9 := fun w => cut_any l w (by omega)
      have c9m := fun w => cut_any m w (by omega)
      rw [q1, q2] at c9m
      have c9p := fun w => cut_any (43 :: l) w (by rw [List.length_cons]; omega)
      have hap : (⟨#[43]⟩ : ByteArray) ++ B l = B (43 :: l) := B_app [43] l
      have h43 : (⟨#[43]⟩ : ByteArray).size = 1 := rfl
      have hbk := fun (W' : World) (hb : Below wr.heap.size wr W') => back_any (l := m) (cap := cap) hml (hY.next hb) fun j hj => rfl
      have hsm := cell_set_map
      clear hY hC q1 q2
      unfold Prt.v PV at c9 c9m c9p
      have HK : Hid (∀ (w2 : World) (o : Obj), Below wr.heap.size wr w2 → Below wr.heap.size wr (w2.alloc o)) := fun w2 o hb => hb.alloc hb.size _
      have hlp : (43 :: l).length = l.length + 1 := rfl
      have hb9 : (B l).size < 9000 := by omega
      rcases plus_ways l hl with ⟨p0, v1, v2⟩ | ⟨p0, p1, v2⟩ | ⟨p0, p1, p2, v2⟩ | ⟨p0, p1, p2, v1, v2⟩
      · have hpi : (l.length : Int) = 0 := by omega
        simp only [p0] at hbk
        rw [v1, v2] at c9p
        clear v1 v2
        generalize (cutV l).cls = V1 at *
        generalize (cutV l).sg = V2 at *
        generalize (cutV l).sn = V3 at *
        generalize (cutV l).dig = V4 at *
        generalize (cutV l).ex = V5 at *
        generalize cutE l = E at *
        go_wp2_with (first | (go_at_call 9; refine (c9 _).mono ?_; rintro x w2 ⟨rfl, hb2⟩; have hbq := hb2; clear c9; obtain ⟨hc2, hf2⟩ := bcell hb2; have hA2 := bnext (w0 := w) (by (repeat (first | with_reducible assumption | with_reducible exact Below.refl _ _ | with_reducible refine Below.setCell ?_ (by first | omega | (dsimp only; omega) | (simp <;> omega)) _ | with_reducible refine Below.alloc ?_ (by first | omega | (simp <;> omega)) _ | with_reducible refine Below.drew ?_))) hb2; have hs2 := hA2.size; clear hb2))
        rw [hbk _ (HK.out _ _ hbq)]
        go_wp2_with (first | (go_at_call 9; refine (c9m _).mono ?_; rintro x w3 ⟨rfl, hb3⟩; clear c9m; obtain ⟨hc3, hf3⟩ := bcell hb3; have hz3_0 : w2.heap.size < w3.heap.size := lt_below hb3 (by first | with_reducible assumption | (simp; done) | (simp; omega)); have hl3_0 := Nat.le_of_lt hz3_0; have hA3 := bnext (w0 := w) (by (repeat (first | with_reducible assumption | with_reducible exact Below.refl _ _ | with_reducible refine Below.setCell ?_ (by first | omega | (dsimp only; omega) | (simp <;> omega)) _ | with_reducible refine Below.alloc ?_ (by first | omega | (simp <;> omega)) _ | with_reducible refine Below.drew ?_))) hb3; have hs3 := hA3.size; clear hb3))
        go_wp2_with (first | (go_at_call 9; refine (c9p _).mono ?_; rintro x w4 ⟨rfl, hb4⟩; clear c9p; obtain ⟨hc4, hf4⟩ := bcell hb4; have hz4_0 : w2.heap.size < w4.heap.size := lt_below hb4 (by first | with_reducible assumption | (simp; done) | (simp; omega)); have hl4_0 := Nat.le_of_lt hz4_0; have hz4_1 : w3.heap.size < w4.heap.size := lt_below hb4 (by first | with_reducible assumption | (simp; done) | (simp; omega)); have hl4_1 := Nat.le_of_lt hz4_1; have hA4 := bnext (w0 := w) (by (repeat (first | with_reducible assumption | with_reducible exact Below.refl _ _ | with_reducible refine Below.setCell ?_ (by first | omega | (dsimp only; omega) | (simp <;> omega)) _ | with_reducible refine Below.alloc ?_ (by first | omega | (simp <;> omega)) _ | with_reducible refine Below.drew ?_))) hb4; have hs4 := hA4.size; clear hb4))
        go_ret
        exact ⟨rfl, by (repeat (first | with_reducible assumption | with_reducible exact Below.refl _ _ | with_reducible refine Below.setCell ?_ (by first | omega | (dsimp only; omega) | (simp <;> omega)) _ | with_reducible refine Below.alloc ?_ (by first | omega | (simp <;> omega)) _ | with_reducible refine Below.drew ?_))⟩
      · have hfs := by_lt (l := l) (i := 0) (by omega)
        have hpi : (0 : Int) < l.length := by omega
        rw [v2] at c9p
        clear v2
        generalize (cutV (43 :: l)).cls = U1 at *
        generalize (cutV (43 :: l)).sg = U2 at *
        generalize (cutV (43 :: l)).sn = U3 at *
        generalize (cutV (43 :: l)).dig = U4 at *
        generalize (cutV (43 :: l)).ex = U5 at *
        generalize (cutV l).cls = V1 at *
        generalize (cutV l).sg = V2 at *
        generalize (cutV l).sn = V3 at *
        generalize (cutV l).dig = V4 at *
        generalize (cutV l).ex = V5 at *
        generalize cutE l = E at *
        go_wp2_with (first | (go_at_call 9; refine (c9 _).mono ?_; rintro x w2 ⟨rfl, hb2⟩; have hbq := hb2; clear c9; obtain ⟨hc2, hf2⟩ := bcell hb2; have hA2 := bnext (w0 := w) (by (repeat (first | with_reducible assumption | with_reducible exact Below.refl _ _ | with_reducible refine Below.setCell ?_ (by first | omega | (dsimp only; omega) | (simp <;> omega)) _ | with_reducible refine Below.alloc ?_ (by first | omega | (simp <;> omega)) _ | with_reducible refine Below.drew ?_))) hb2; have hs2 := hA2.size; clear hb2))
        rw [hbk _ (HK.out _ _ hbq)]
        go_wp2_with (first | (go_at_call 9; refine (c9m _).mono ?_; rintro x w3 ⟨rfl, hb3⟩; clear c9m; obtain ⟨hc3, hf3⟩ := bcell hb3; have hz3_0 : w2.heap.size < w3.heap.size := lt_below hb3 (by first | with_reducible assumption | (simp; done) | (simp; omega)); have hl3_0 := Nat.le_of_lt hz3_0; have hA3 := bnext (w0 := w) (by (repeat (first | with_reducible assumption | with_reducible exact Below.refl _ _ | with_reducible refine Below.setCell ?_ (by first | omega | (dsimp only; omega) | (simp <;> omega)) _ | with_reducible refine Below.alloc ?_ (by first | omega | (simp <;> omega)) _ | with_reducible refine Below.drew ?_))) hb3; have hs3 := hA3.size; clear hb3))
        go_wp2_with (first | (go_at_call 9; refine (c9p _).mono ?_; rintro x w4 ⟨rfl, hb4⟩; clear c9p; obtain ⟨hc4, hf4⟩ := bcell hb4; have hz4_0 : w2.heap.size < w4.heap.size := lt_below hb4 (by first | with_reducible assumption | (simp; done) | (simp; omega)); have hl4_0 := Nat.le_of_lt hz4_0; have hz4_1 : w3.heap.size < w4.heap.size := lt_below hb4 (by first | with_reducible assumption | (simp; done) | (simp; omega)); have hl4_1 := Nat.le_of_lt hz4_1; have hA4 := bnext (w0 := w) (by (repeat (first | with_reducible assumption | with_reducible exact Below.refl _ _ | with_reducible refine Below.setCell ?_ (by first | omega | (dsimp only; omega) | (simp <;> omega)) _ | with_reducible refine Below.alloc ?_ (by first | omega | (simp <;> omega)) _ | with_reducible refine Below.drew ?_))) hb4; have hs4 := hA4.size; clear hb4))
        go_ret
        exact ⟨rfl, by (repeat (first | with_reducible assumption | with_reducible exact Below.refl _ _ | with_reducible refine Below.setCell ?_ (by first | omega | (dsimp only; omega) | (simp <;> omega)) _ | with_reducible refine Below.alloc ?_ (by first | omega | (simp <;> omega)) _ | with_reducible refine Below.drew ?_))⟩
      · have hfs := by_lt (l := l) (i := 0) (by omega)
        have hpi : (0 : Int) < l.length := by omega
        have g1 : (by_ l 0 == 43) = false := beq_eq_false_iff_ne.2 p1
        rw [v2] at c9p
        clear v2
        generalize (cutV (43 :: l)).cls = U1 at *
        generalize (cutV (43 :: l)).sg = U2 at *
        generalize (cutV (43 :: l)).sn = U3 at *
        generalize (cutV (43 :: l)).dig = U4 at *
        generalize (cutV (43 :: l)).ex = U5 at *
        generalize (cutV l).cls = V1 at *
        generalize (cutV l).sg = V2 at *
        generalize (cutV l).sn = V3 at *
        generalize (cutV l).dig = V4 at *
        generalize (cutV l).ex = V5 at *
        generalize cutE l = E at *
        go_wp2_with (first | (go_at_call 9; refine (c9 _).mono ?_; rintro x w2 ⟨rfl, hb2⟩; have hbq := hb2; clear c9; obtain ⟨hc2, hf2⟩ := bcell hb2; have hA2 := bnext (w0 := w) (by (repeat (first | with_reducible assumption | with_reducible exact Below.refl _ _ | with_reducible refine Below.setCell ?_ (by first | omega | (dsimp only; omega) | (simp <;> omega)) _ | with_reducible refine Below.alloc ?_ (by first | omega | (simp <;> omega)) _ | with_reducible refine Below.drew ?_))) hb2; have hs2 := hA2.size; clear hb2))
        rw [hbk _ (HK.out _ _ hbq)]
        go_wp2_with (first | (go_at_call 9; refine (c9m _).mono ?_; rintro x w3 ⟨rfl, hb3⟩; clear c9m; obtain ⟨hc3, hf3⟩ := bcell hb3; have hz3_0 : w2.heap.size < w3.heap.size := lt_below hb3 (by first | with_reducible assumption | (simp; done) | (simp; omega)); have hl3_0 := Nat.le_of_lt hz3_0; have hA3 := bnext (w0 := w) (by (repeat (first | with_reducible assumption | with_reducible exact Below.refl _ _ | with_reducible refine Below.setCell ?_ (by first | omega | (dsimp only; omega) | (simp <;> omega)) _ | with_reducible refine Below.alloc ?_ (by first | omega | (simp <;> omega)) _ | with_reducible refine Below.drew ?_))) hb3; have hs3 := hA3.size; clear hb3))
        go_wp2_with (first | (go_at_call 9; refine (c9p _).mono ?_; rintro x w4 ⟨rfl, hb4⟩; clear c9p; obtain ⟨hc4, hf4⟩ := bcell hb4; have hz4_0 : w2.heap.size < w4.heap.size := lt_below hb4 (by first | with_reducible assumption | (simp; done) | (simp; omega)); have hl4_0 := Nat.le_of_lt hz4_0; have hz4_1 : w3.heap.size < w4.heap.size := lt_below hb4 (by first | with_reducible assumption | (simp; done) | (simp; omega)); have hl4_1 := Nat.le_of_lt hz4_1; have hA4 := bnext (w0 := w) (by (repeat (first | with_reducible assumption | with_reducible exact Below.refl _ _ | with_reducible refine Below.setCell ?_ (by first | omega | (dsimp only; omega) | (simp <;> omega)) _ | with_reducible refine Below.alloc ?_ (by first | omega | (simp <;> omega)) _ | with_reducible refine Below.drew ?_))) hb4; have hs4 := hA4.size; clear hb4))
        go_ret
        exact ⟨rfl, by (repeat (first | with_reducible assumption | with_reducible exact Below.refl _ _ | with_reducible refine Below.setCell ?_ (by first | omega | (dsimp only; omega) | (simp <;> omega)) _ | with_reducible refine Below.alloc ?_ (by first | omega | (simp <;> omega)) _ | with_reducible refine Below.drew ?_))⟩
      · have hfs := by_lt (l := l) (i := 0) (by omega)
        have hpi : (0 : Int) < l.length := by omega
        have g1 : (by_ l 0 == 43) = false := beq_eq_false_iff_ne.2 p1
        have g2 : (by_ l 0 == 45) = false := beq_eq_false_iff_ne.2 p2
        rw [v1, v2] at c9p
        clear v1 v2
        generalize (cutV l).cls = V1 at *
        generalize (cutV l).sg = V2 at *
        generalize (cutV l).sn = V3 at *
        generalize (cutV l).dig = V4 at *
        generalize (cutV l).ex = V5 at *
        generalize cutE l = E at *
        go_wp2_with (first | (go_at_call 9; refine (c9 _).mono ?_; rintro x w2 ⟨rfl, hb2⟩; have hbq := hb2; clear c9; obtain ⟨hc2, hf2⟩ := bcell hb2; have hA2 := bnext (w0 := w) (by (repeat (first | with_reducible assumption | with_reducible exact Below.refl _ _ | with_reducible refine Below.setCell ?_ (by first | omega | (dsimp only; omega) | (simp <;> omega)) _ | with_reducible refine Below.alloc ?_ (by first | omega | (simp <;> omega)) _ | with_reducible refine Below.drew ?_))) hb2; have hs2 := hA2.size; clear hb2))
        rw [hbk _ (HK.out _ _ hbq)]
        go_wp2_with (first | (go_at_call 9; refine (c9m _).mono ?_; rintro x w3 ⟨rfl, hb3⟩; clear c9m; obtain ⟨hc3, hf3⟩ := bcell hb3; have hz3_0 : w2.heap.size < w3.heap.size := lt_below hb3 (by first | with_reducible assumption | (simp; done) | (simp; omega)); have hl3_0 := Nat.le_of_lt hz3_0; have hA3 := bnext (w0 := w) (by (repeat (first | with_reducible assumption | with_reducible exact Below.refl _ _ | with_reducible refine Below.setCell ?_ (by first | omega | (dsimp only; omega) | (simp <;> omega)) _ | with_reducible refine Below.alloc ?_ (by first | omega | (simp <;> omega)) _ | with_reducible refine Below.drew ?_))) hb3; have hs3 := hA3.size; clear hb3))
        go_wp2_with (first | (go_at_call 9; refine (c9p _).mono ?_; rintro x w4 ⟨rfl, hb4⟩; clear c9p; obtain ⟨hc4, hf4⟩ := bcell hb4; have hz4_0 : w2.heap.size < w4.heap.size := lt_below hb4 (by first | with_reducible assumption | (simp; done) | (simp; omega)); have hl4_0 := Nat.le_of_lt hz4_0; have hz4_1 : w3.heap.size < w4.heap.size := lt_below hb4 (by first | with_reducible assumption | (simp; done) | (simp; omega)); have hl4_1 := Nat.le_of_lt hz4_1; have hA4 := bnext (w0 := w) (by (repeat (first | with_reducible assumption | with_reducible exact Below.refl _ _ | with_reducible refine Below.setCell ?_ (by first | omega | (dsimp only; omega) | (simp <;> omega)) _ | with_reducible refine Below.alloc ?_ (by first | omega | (simp <;> omega)) _ | with_reducible refine Below.drew ?_))) hb4; have hs4 := hA4.size; clear hb4))
        go_ret
        exact ⟨rfl, by (repeat (first | with_reducible assumption | with_reducible exact Below.refl _ _ | with_reducible refine Below.setCell ?_ (by first | omega | (dsimp only; omega) | (simp <;> omega)) _ | with_reducible refine Below.alloc ?_ (by first | omega | (simp <;> omega)) _ | with_reducible refine Below.drew ?_))⟩
end Go.Proofs.YtgjdhfmpemionaaDoor
