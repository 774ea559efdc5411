/-
  What NewPowers, none, once.Do and Made do: contracts.
-/
import Derived.Test.YtcjbdmgaooojlaaDoorPre
import Derived.Test.YtcjbdmgaooojlaaDoorClo
set_option linter.unusedVariables false
set_option linter.unusedSimpArgs false
set_option maxRecDepth 20000
namespace Go.Proofs.YtcjbdmgaooojlaaDoor
open Go.RowKit

/-- not yet asked; asked already -/
def Frs (g : Nat) (n : Int) (w : World) : Prop := PowB g n 0 0 0 (.slice none 0 0) (.slice none 0 0) w
def Rdy (g : Nat) (n : Int) (w : World) : Prop := ∃ base l gr, g < base ∧ PowB g n 1 0 1 l gr w ∧ Lis base 14 (pbase n) l w ∧ Gre base n gr w
def Pst (g : Nat) (n : Int) (w : World) : Prop := Frs g n w ∨ Rdy g n w
theorem Rdy.next {g : Nat} {n : Int} {w w' : World} (h : Rdy g n w) (hb : Below w.heap.size w w') : Rdy g n w' := by
  obtain ⟨base, l, gr, h0, h1, h2, h3⟩ := h
  exact ⟨base, l, gr, h0, h1.next hb, h2.keep (keep_of_below (g := g) hb) h0, h3.keep (keep_of_below (g := g) hb) h0⟩
theorem Pst.next {g : Nat} {n : Int} {w w' : World} (h : Pst g n w) (hb : Below w.heap.size w w') : Pst g n w' := by
  rcases h with h | h
  · exact Or.inl (PowB.next h hb)
  · exact Or.inr (h.next hb)

set_option maxHeartbeats 1000000 in
theorem newp_any (n : Int) (w : World) (hT : Tab w) (hn : okN n) :
    Calls Tryd.prog 18 #[.int .i64 n] w fun e w' => ∃ g, e = .returned (.pointer (some ⟨g, 0, none⟩)) ∧ Frs g n w' ∧ w.heap.size ≤ g ∧ Below w.heap.size w w' := by
  have hE : infoE n = 0 := if_pos hn
  have hof := ofv_any n w hT
  rw [hE] at hof
  go_enter Tryd.func18, Tryd.ntmps18
  go_wp2_with (go_at_call 10; refine hof.mono ?_; rintro e w1 ⟨rfl, hb⟩)
  go_ret
  refine ⟨_, rfl, ?_, Nat.le_succ_of_le hb.size, (hb.alloc hb.size _).alloc (Nat.le_trans hb.size (by simp)) _⟩
  refine ⟨by simp, fun k => by simp, ?_, ?_, ?_, ?_, ?_, ?_, ?_, ?_⟩ <;> simp
set_option maxHeartbeats 1000000 in
theorem newp_none (n : Int) (w : World) (hT : Tab w) (hn : ¬ okN n) :
    Calls Tryd.prog 18 #[.int .i64 n] w fun e w' => e = .returned (.pointer none) ∧ Below w.heap.size w w' := by
  have hE : infoE n = 1 := if_neg hn
  have hof := ofv_any n w hT
  rw [hE] at hof
  go_enter Tryd.func18, Tryd.ntmps18
  go_wp2_with (go_at_call 10; refine hof.mono ?_; rintro e w1 ⟨rfl, hb⟩)
  go_ret
  exact ⟨rfl, hb.alloc hb.size _⟩
theorem none_nil (w : World) : Calls Tryd.prog 31 #[.pointer none] w fun e w' => e = .returned (.bool true) ∧ w = w' := by
  go_enter Tryd.func31, Tryd.ntmps31
  go_wp2
  go_ret
  exact ⟨rfl, rfl⟩
theorem none_any {g : Nat} {n d m c : Int} {l gr : Value} {w : World} (hn : okN n) (h : PowB g n d m c l gr w) : Calls Tryd.prog 31 #[.pointer (some ⟨g, 0, none⟩)] w fun e w' => e = .returned (.bool false) ∧ w = w' := by
  have hc := h.num
  have hz : (numN n == 0) = false := by unfold numN; rw [if_pos hn]; unfold okN at hn; simp; omega
  clear h
  go_enter Tryd.func31, Tryd.ntmps31
  go_wp2
  go_ret
  exact ⟨rfl, rfl⟩
theorem do_any {g : Nat} {n : Int} {w : World} (hn : okN n) (h : Pst g n w) :
    Calls Tryd.prog 32 #[.pointer (some ⟨g, 10, none⟩), .func (.func 33) #[.pointer (some ⟨g, 0, none⟩)] #[]] w fun e w' => e = .returned (.tuple #[]) ∧ Rdy g n w' ∧ w.grownBy w' (some g) ∧ (Rdy g n w → w = w') := by
  rcases h with h | h
  · have hW := PowB.setLock h 1
    have hK := keep_set w g 11 (.int .i32 1)
    refine (do_first g w h.done h.lock (h.loose 11) _ (prepare_any g n _ hn hW) ?_).mono ?_
    · rintro w' ⟨l, gr, hP, _⟩
      exact ⟨hP.done, hP.lock, hP.loose 10, hP.loose 11⟩
    · rintro e w' ⟨rfl, w1, ⟨l, gr, hP, hL, hG, hK1⟩, rfl⟩
      have hlt := hW.lt
      have hP' : PowB g n 0 1 1 l gr w1.drew := hP.of_block rfl (Nat.le_refl _)
      refine ⟨rfl, ⟨_, l, gr, hlt, (hP'.setDone 1).setLock 0, ((hL.keep (keep_drew g _) hlt).keep (keep_set _ g _ _) hlt).keep (keep_set _ g _ _) hlt, ((hG.keep (keep_drew g _) hlt).keep (keep_set _ g _ _) hlt).keep (keep_set _ g _ _) hlt⟩, ?_⟩
      refine ⟨keep_trans (keep_trans (keep_trans (keep_trans hK hK1) (keep_drew g _)) (keep_set _ g _ _)) (keep_set _ g _ _), ?_⟩
      rintro ⟨_, _, _, _, hq, _⟩
      have e := hq.done
      rw [h.done] at e
      cases e
  · obtain ⟨base, l, gr, h0, h1, h2, h3⟩ := h
    refine (do_done ⟨g, 10, none⟩ _ w h1.done).mono ?_
    rintro e w' ⟨rfl, rfl⟩
    exact ⟨rfl, ⟨base, l, gr, h0, h1, h2, h3⟩, keep_refl g w, fun _ => rfl⟩
end Go.Proofs.YtcjbdmgaooojlaaDoor
