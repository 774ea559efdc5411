/-
  What Power, Greatest and Made do: contracts.
-/
import Derived.Test.YtcjbdmgaooojlaaDoorPwr
set_option linter.unusedVariables false
set_option linter.unusedSimpArgs false
set_option maxRecDepth 20000
namespace Go.Proofs.YtcjbdmgaooojlaaDoor
open Go.RowKit

/-- cell i of the list of powers -/
theorem Lis.at {base m : Nat} {B : Int} {l : Value} {w : World} (h : Lis base m B l w) (hm : 0 < m) : ∃ q cap, l = .slice (some ⟨q, 0, none⟩) m cap ∧ m ≤ cap ∧ cap ≤ maxLen ∧ ∀ i, i < m → ∃ v, w.cell? ⟨q, i, none⟩ = some v ∧ El B i base v w l.ownBlock := by
  obtain ⟨vs, ⟨h1, h2⟩, h3⟩ := h
  rcases h2 with ⟨_, h2⟩ | ⟨q, cap, cur, rfl, h4, h5, h6, h7, h8, h9⟩
  · omega
  · refine ⟨q, cap, rfl, h6, h7, fun i hi => ?_⟩
    obtain ⟨v, hv, hE⟩ := h3 i hi
    refine ⟨v, ?_, hE⟩
    have hcur : cur[i]? = some v := by
      rw [← h9, List.getElem?_take] at hv
      simpa [hi] using hv
    unfold World.cell?
    simp [h5, hcur]

/-- an answer in new memory, in block b; all that was there behind the first call stands -/
def Ans (g : Nat) (n : Int) (w w' : World) (b : Nat) : Prop := ∃ w2, Rdy g n w2 ∧ w.grownBy w2 (some g) ∧ (Rdy g n w → w = w2) ∧ Below w2.heap.size w2 w' ∧ w2.heap.size ≤ b ∧ ∀ i, w'.frozen? ⟨b, i, none⟩ = false
theorem power_nil (n : Int) (w : World) : Calls Tryd.prog 19 #[.pointer none, .int .i64 n] w fun e w' => e = .returned (.tuple #[.slice none 0 0, .int .i64 1]) ∧ w = w' := by
  go_enter Tryd.func19, Tryd.ntmps19
  go_wp2_with (go_at_call 31; refine (none_nil _).mono ?_; rintro e w1 ⟨rfl, rfl⟩)
  go_ret2
  exact ⟨rfl, rfl⟩
theorem greatest_nil (w : World) : Calls Tryd.prog 22 #[.pointer none] w fun e w' => e = .returned (.slice none 0 0) ∧ w = w' := by
  go_enter Tryd.func22, Tryd.ntmps22
  go_wp2_with (go_at_call 31; refine (none_nil _).mono ?_; rintro e w1 ⟨rfl, rfl⟩)
  go_ret
  exact ⟨rfl, rfl⟩
theorem made_nil (w : World) : Calls Tryd.prog 25 #[.pointer none] w fun e w' => e = .returned (.int .i64 0) ∧ w = w' := by
  go_enter Tryd.func25, Tryd.ntmps25
  go_wp2_with (go_at_call 31; refine (none_nil _).mono ?_; rintro e w1 ⟨rfl, rfl⟩)
  go_ret
  exact ⟨rfl, rfl⟩

theorem Pst.none {g : Nat} {n : Int} {w : World} (hn : okN n) (h : Pst g n w) : Calls Tryd.prog 31 #[.pointer (some ⟨g, 0, Option.none⟩)] w fun e w' => e = .returned (.bool false) ∧ w = w' := by
  rcases h with h | ⟨_, _, _, _, h, _⟩
  · exact none_any hn h
  · exact none_any hn h
theorem pbase_or (n : Int) : pbase n = 5 ∨ pbase n = 10 := by unfold pbase; split <;> simp

set_option maxHeartbeats 2000000 in
theorem power_err (g : Nat) (n m : Int) (w : World) (hn : okN n) (h : Pst g n w) (hm : m < 0 ∨ 12000 < m) :
    Calls Tryd.prog 19 #[.pointer (some ⟨g, 0, none⟩), .int .i64 m] w fun e w' => e = .returned (.tuple #[.slice none 0 0, .int .i64 (powE (pbase n) m)]) ∧ Rdy g n w' ∧ w.grownBy w' (some g) ∧ (Rdy g n w → w = w') := by
  have hmf : ∀ (fn : Fn) (first cap : Array Value) (w : World), (Instr.makeFunc fn first cap).run Tryd.prog w = .ok (.func fn first cap) w := fun _ _ _ _ => rfl
  have h0 := Pst.none hn h
  have h1 := do_any hn h
  have hp := pbase_or n
  have key : m < 0 ∧ powE (pbase n) m = 1 ∨ (¬ m < 0 ∧ 12000 < m) ∧ powE (pbase n) m = 4 := by
    unfold powE
    rcases hm with hm | hm
    · exact Or.inl ⟨hm, if_pos (Or.inr hm)⟩
    · exact Or.inr ⟨⟨by omega, hm⟩, by rw [if_neg (by omega), if_pos hm]⟩
  clear hm h
  rcases key with ⟨k1, k2⟩ | ⟨⟨k1, k3⟩, k2⟩
  all_goals
    rw [k2]
    go_enter Tryd.func19, Tryd.ntmps19
    go_wp2_with (first | (go_at_call 31; refine h0.mono ?_; rintro e w1 ⟨rfl, rfl⟩) | (go_at_call 32; refine h1.mono ?_; rintro e w2 ⟨rfl, hR, hK, hRw⟩))
    go_ret2
    exact ⟨rfl, hR, hK, hRw⟩

/-- the power of n's lowest i bits -/
theorem pow_step (B : Int) (n i : Nat) : B ^ (n % 2 ^ i) * (if n / 2 ^ i % 2 = 1 then B ^ (2 ^ i) else 1) = B ^ (n % 2 ^ (i + 1)) := by
  have e : n % 2 ^ (i + 1) = n % 2 ^ i + 2 ^ i * (n / 2 ^ i % 2) := by rw [Nat.pow_succ, Nat.mod_mul]
  have h2 : n / 2 ^ i % 2 = 0 ∨ n / 2 ^ i % 2 = 1 := by omega
  rw [e]
  rcases h2 with h | h
  · rw [h, if_neg (by decide)]; simp
  · rw [h, if_pos rfl, Nat.mul_one, Int.pow_add]

set_option maxHeartbeats 2000000 in
theorem power_ok (g : Nat) (n : Int) (m : Nat) (w : World) (hn : okN n) (h : Pst g n w) (hm : m ≤ 12000) :
    Calls Tryd.prog 19 #[.pointer (some ⟨g, 0, none⟩), .int .i64 m] w fun e w' => ∃ b k c z, e = .returned (.tuple #[.slice (some ⟨b, 0, none⟩) k c, .int .i64 0]) ∧ k ≤ 632 ∧ Num w' (some ⟨b, 0, none⟩) k c z ∧ val z k = pbase n ^ m ∧ sizeL z k = k ∧ Ans g n w w' b := by
  have hmf : ∀ (fn : Fn) (first cap : Array Value) (w : World), (Instr.makeFunc fn first cap).run Tryd.prog w = .ok (.func fn first cap) w := fun _ _ _ _ => rfl
  have h0 := Pst.none hn h
  have h1 := do_any hn h
  have hp := pbase_or n
  have hps : Hid (∀ e, e ≤ 12000 → pbase n ^ e < 18446744073709551616 ^ 632) := fun e he => pow_small (by rcases hp with h | h <;> rw [h] <;> decide) (by rcases hp with h | h <;> rw [h] <;> decide) he
  have hm' : (m : Int) ≤ 12000 := by omega
  clear h hp
  go_enter Tryd.func19, Tryd.ntmps19
  go_wp2_with (first
    | (go_at_call 31; refine h0.mono ?_; rintro e w1 ⟨rfl, rfl⟩)
    | (go_at_call 32; refine h1.mono ?_; rintro e w2 ⟨rfl, hR, hK, hRw⟩
       obtain ⟨base, l, gr, hgb, hP, hL, hG⟩ := hR
       obtain ⟨q, cap, rfl, hcap, hmax, _⟩ := hL.at (by decide)
       have hli := hP.list
       have hlt := hP.lt
       have hN1 := num_one w2 1 (by decide)
       have hB1 := below1' w2 (.cells #[.int .u64 1] 37)
       have HRest : Hid (PowB g n 1 0 1 (.slice (some ⟨q, 0, none⟩) 14 cap) gr w2 ∧ Gre base n gr w2) := ⟨hP, hG⟩
       have HL : Hid (Lis base 14 (pbase n) (.slice (some ⟨q, 0, none⟩) 14 cap) w2) := hL
       have HK : Hid (w.grownBy w2 (some g)) := hK
       have HRw : Hid (Rdy g n w → w = w2) := hRw
       have HF0 : Hid (w2.heap.size ≤ w2.heap.size ∧ ∀ j, (w2.alloc (.cells #[.int .u64 1] 37)).frozen? ⟨w2.heap.size, j, none⟩ = false) := ⟨Nat.le_refl _, fun j => by simp⟩
       clear hP hG hL hK h0 h1 hmf hRw))
  have HS1 : Hid (sizeL (oneW 1) 1 = 1) := by show _ = _; simp [sizeL, oneW]
  generalize w2.alloc (.cells #[.int .u64 1] 37) = wA at *
  go_loopw [6, 7, 8, 27] (fun pv u7 u8 iv wr => ∃ (i kk b c : Nat) (z : Nat → Int), i ≤ 14 ∧ iv = .int .i64 i ∧ pv = .slice (some ⟨b, 0, none⟩) kk c ∧ kk ≤ 632 ∧ Num wr (some ⟨b, 0, none⟩) kk c z ∧ sizeL z kk = kk ∧ Hid (val z kk = pbase n ^ (m % 2 ^ i)) ∧ Hid (w2.heap.size ≤ b ∧ ∀ j, wr.frozen? ⟨b, j, none⟩ = false) ∧ Below w2.heap.size w2 wr) (fun _ _ _ iv _ => 14 - (intOf iv).toNat)
  case atStart => exact ⟨0, 1, w2.heap.size, 1, oneW 1, by decide, rfl, rfl, by decide, hN1, HS1.out, by show _ = _; rw [val_one1]; simp [Nat.mod_one], HF0, hB1⟩
  case round =>
    clear hN1 hB1 hli
    obtain ⟨i, kk, b, c, z, hi, rfl, rfl, hkk, hN, hs, hv, hfr, hB⟩ := hrel
    have hLr := HL.out.keep (keep_of_below (g := g) hB) hgb
    by_cases h : i < 14
    · have hii : (i : Int) < 14 := by omega
      obtain ⟨q', cap', e0, _, _, hat⟩ := hLr.at (by decide)
      cases e0
      obtain ⟨v, hci, b2, k2, c2, z2, rfl, hN2, hv2, hk2, hs2, _, _⟩ := hat i h
      have hp := pow2_le h
      have hk2b : k2 ≤ 632 := size_bound hN2.2.2.1 hs2 (by rw [hv2]; exact hps.out _ (by omega))
      have hmul := nmulF (some ⟨b, 0, none⟩) (some ⟨b2, 0, none⟩) kk c k2 c2 z z2 wr (by omega) (by omega) hN hN2 (by omega)
      rw [hv.out, hv2] at hmul
      obtain ⟨e, he⟩ : ∃ e, m / 2 ^ i = e := ⟨_, rfl⟩
      have hcast : (m : Int) / 2 ^ i = (e : Int) := by rw [← he, Int.natCast_ediv, powCast]
      have hand := Go.Proofs.and_one e (by have := Nat.div_le_self m (2 ^ i); omega)
      have hstep := pow_step (pbase n) m i
      rw [he] at hstep
      have HN : Hid (Num wr (some ⟨b, 0, none⟩) kk c z) := hN
      have HB : Hid (Below w2.heap.size w2 wr) := hB
      clear hN hN2 hat hLr hB
      by_cases hodd : e % 2 = 1
      · rw [hodd] at hand
        rw [if_pos hodd] at hstep
        rw [hstep] at hmul
        have HM : Hid (m % 2 ^ (i + 1) ≤ 12000) := Nat.le_trans (Nat.mod_le _ _) hm
        clear hstep hodd he
        go_wp2_with (go_at_call 34; refine hmul.mono ?_; rintro e' w3 ⟨b3, k3, c3, z3, rfl, hk3, hN3, hv3, hs3, hb3, hf3, hg3⟩; clear hmul)
        have hk3b : k3 ≤ 632 := size_bound hN3.2.2.1 hs3 (by rw [hv3]; exact hps.out _ HM.out)
        have HN3 : Hid (Num w3 (some ⟨b3, 0, none⟩) k3 c3 z3) := hN3
        clear hN3
        go_roundw
        case rel => exact ⟨i + 1, k3, b3, c3, z3, by omega, by go_num, rfl, hk3b, HN3.out, hs3, hv3, ⟨Nat.le_trans HB.out.size hf3, hg3⟩, HB.out.trans (hb3.mono HB.out.size)⟩
        case measure => simp [intOf]; omega
      · have he0 : e % 2 = 0 := by omega
        rw [he0] at hand
        rw [if_neg hodd, Int.mul_one] at hstep
        have HV : Hid (val z kk = pbase n ^ (m % 2 ^ (i + 1))) := hv.out.trans hstep
        clear hstep hodd he hmul hv
        go_wp2
        go_roundw
        case rel => exact ⟨i + 1, kk, b, c, z, by omega, by go_num, rfl, hkk, HN.out, hs, HV, hfr, HB.out⟩
        case measure => simp [intOf]; omega
    · obtain rfl : i = 14 := by omega
      have HV : Hid (val z kk = pbase n ^ m) := by
        show _ = _
        rw [hv.out, Nat.mod_eq_of_lt (by omega)]
      have HN : Hid (Num wr (some ⟨b, 0, none⟩) kk c z) := hN
      have HB : Hid (Below w2.heap.size w2 wr) := hB
      have HLr : Hid (Lis base 14 (pbase n) (.slice (some ⟨q, 0, none⟩) 14 cap) wr) := hLr
      clear hN hB hLr hv
      go_wp2
      go_ret2
      exact ⟨b, kk, c, z, rfl, hkk, HN.out, HV.out, hs, w2, ⟨base, _, gr, hgb, HRest.out.1, HL.out, HRest.out.2⟩, HK.out, HRw.out, HB.out, hfr.out.1, hfr.out.2⟩

theorem great_pos {n : Int} (h : okN n) : 1 ≤ baseN n ^ (precN n).toNat - 1 := by
  rcases okN_cases h with rfl | rfl | rfl | rfl | rfl | rfl | rfl | rfl | rfl | rfl | rfl | rfl <;> decide
set_option maxHeartbeats 1000000 in
theorem greatest_any (g : Nat) (n : Int) (w : World) (hn : okN n) (h : Pst g n w) :
    Calls Tryd.prog 22 #[.pointer (some ⟨g, 0, none⟩)] w fun e w' => ∃ b k c z, e = .returned (.slice (some ⟨b, 0, none⟩) k c) ∧ k ≤ 2001 ∧ 0 < k ∧ Num w' (some ⟨b, 0, none⟩) k c z ∧ val z k = baseN n ^ (precN n).toNat - 1 ∧ sizeL z k = k ∧ Ans g n w w' b := by
  have hmf : ∀ (fn : Fn) (first cap : Array Value) (w : World), (Instr.makeFunc fn first cap).run Tryd.prog w = .ok (.func fn first cap) w := fun _ _ _ _ => rfl
  have h0 := Pst.none hn h
  have h1 := do_any hn h
  have hpos := great_pos hn
  clear h
  go_enter Tryd.func22, Tryd.ntmps22
  go_wp2_with (first
    | (go_at_call 31; refine h0.mono ?_; rintro e w1 ⟨rfl, rfl⟩)
    | (go_at_call 32; refine h1.mono ?_; rintro e w2 ⟨rfl, hR, hK, hRw⟩
       obtain ⟨base, l, gr, hgb, hP, hL, b, k, c, z, rfl, hN, hv, hk, hs, hbb⟩ := hR
       have hgc := hP.great
       have hk0 : 0 < k := by
         rcases Nat.eq_zero_or_pos k with e | e
         · rw [e] at hv
           have : val z 0 = 0 := rfl
           omega
         · exact e
       have hcl := clone_any b k c z w2 (by omega) hk0 hN
       have HR : Hid (Rdy g n w2) := ⟨base, l, _, hgb, hP, hL, b, k, c, z, rfl, hN, hv, hk, hs, hbb⟩
       have HK : Hid (w.grownBy w2 (some g)) := hK
       have HRw : Hid (Rdy g n w → w = w2) := hRw
       clear hP hL hN hK hRw h0 h1)
    | (go_at_call 37; refine hcl.mono ?_; rintro e w3 ⟨b3, c3, rfl, hN3, hb3, hf3, hz3⟩; clear hcl))
  go_ret
  exact ⟨b3, k, c3, z, rfl, hk, hk0, hN3, hv, hs, w2, HR.out, HK.out, HRw.out, hb3, hf3, hz3⟩
end Go.Proofs.YtcjbdmgaooojlaaDoor
