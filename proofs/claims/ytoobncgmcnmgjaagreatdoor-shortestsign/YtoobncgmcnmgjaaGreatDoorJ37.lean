/-
  Texts that the proof leans on, joined: Xn, Sp9, Sr9, Ss9.
-/
import Derived.Test.YtoobncgmcnmgjaaGreatDoorJ35
import Derived.Test.YtoobncgmcnmgjaaGreatDoorJ36
import Derived.Test.YtoobncgmcnmgjaaGreatDoorJ1
set_option linter.unusedVariables false
set_option linter.unusedSectionVars false
set_option linter.unusedSimpArgs false
set_option maxRecDepth 20000
namespace Go.Proofs.YtoobncgmcnmgjaaGreatDoor
open Go.RowKit

theorem decL_rev {V : Int} {L : Nat} (h0 : 0 < V) (h : V < 10 ^ L) : revL V (sizeL (dgt V) L) = decL V L := by
  unfold decL revL
  rw [if_neg]
  intro e
  have := lt_sizeL (Int.le_of_lt h0) L h
  rw [e] at this; simp at this; omega
theorem sb_nums {l : List Int} (hl : ∀ v ∈ l, 48 ≤ v ∧ v ≤ 57) {i : Nat} (hi : i < l.length) : sb (strOfNums l) i = l[i] := by
  unfold sb
  rw [dif_pos (by rw [strOfNums_size]; exact hi)]
  have h := hl l[i] (List.getElem_mem hi)
  have e : (strOfNums l)[i]'(by rw [strOfNums_size]; exact hi) = UInt8.ofNat l[i].toNat := by
    show (strOfNums l).data[i]'_ = _
    simp [strOfNums]
  rw [e]
  simp
  omega
theorem numV_rev {V : Int} {K : Nat} {u : ByteArray} (hu : ∀ i, i < K → sb u i = 48 + dgt V (K - 1 - i)) (h0 : 0 ≤ V) (hV : V < 10 ^ K) : ∀ j, j ≤ K → numV u j = V / 10 ^ (K - j)
  | 0, _ => by rw [Nat.sub_zero, Int.ediv_eq_zero_of_lt h0 hV]; rfl
  | j + 1, h => by
    have ih := numV_rev hu h0 hV j (by omega)
    simp only [numV]
    rw [ih, hu j (by omega)]
    have e1 : K - j = (K - (j + 1)) + 1 := by omega
    have e2 : K - 1 - j = K - (j + 1) := by omega
    rw [e1, e2]
    unfold dgt
    rw [← div_div10]
    generalize V / 10 ^ (K - (j + 1)) = W
    omega
/-- the digits of a number -/
def dcD (V : Int) (L : Nat) : List UInt8 := (strOfNums (revL V (sizeL (dgt V) L))).data.toList
theorem dcD_facts {V : Int} {L : Nat} (h0 : 0 < V) (h : V < 10 ^ L) : gdD (dcD V L) ∧ (dV (dcD V L) : Int) = V ∧ (dcD V L).length ≤ L := by
  have hK := lt_sizeL (Int.le_of_lt h0) L h
  have hKp : 0 < sizeL (dgt V) L := by
    rcases Nat.eq_zero_or_pos (sizeL (dgt V) L) with e | e
    · rw [e] at hK; simp at hK; omega
    · exact e
  have hKL := sizeL_le (dgt V) L
  have htop := sizeL_top L hKp
  have hB : B (dcD V L) = strOfNums (revL V (sizeL (dgt V) L)) := B_of _
  have hd : ∀ v ∈ revL V (sizeL (dgt V) L), 48 ≤ v ∧ v ≤ 57 := by
    intro v hv
    simp [revL] at hv
    obtain ⟨i, _, rfl⟩ := hv
    have := dgt_bd V (sizeL (dgt V) L - 1 - i)
    omega
  have hrl : (revL V (sizeL (dgt V) L)).length = sizeL (dgt V) L := by simp [revL]
  have hsz : (dcD V L).length = sizeL (dgt V) L := by
    rw [← B_size, hB, strOfNums_size, hrl]
  have hby : ∀ i, i < sizeL (dgt V) L → by_ (dcD V L) i = 48 + dgt V (sizeL (dgt V) L - 1 - i) := fun i hi => by
    rw [← sb_by, hB, sb_nums hd (by rw [hrl]; exact hi)]; simp [revL]
  have hall : (dcD V L).all dg = true := (all_dg _).2 fun i hi => by
    rw [hsz] at hi
    rw [hby i hi]
    have := dgt_bd V (sizeL (dgt V) L - 1 - i)
    omega
  refine ⟨Or.inr ⟨?_, ?_⟩, ?_, by omega⟩
  · unfold isd
    rw [hall]
    have : dcD V L ≠ [] := fun e => by rw [e] at hsz; simp at hsz; omega
    simp [this]
  · rw [hby 0 hKp, Nat.sub_zero]
    intro e
    exact htop (by omega)
  · rw [(dV_lt hall).2, B_size, hsz]
    rw [numV_rev (K := sizeL (dgt V) L) (fun i hi => by rw [sb_by]; exact hby i hi) (Int.le_of_lt h0) hK _ (Nat.le_refl _)]
    simp
set_option maxHeartbeats 1000000 in
theorem rdec_zero (a : Option Addr) (n c : Nat) (x : Nat → Int) (w : World) (hn : n < 100000) (h : Num w a n c x) (hz : sizeL x n = 0) :
    Calls Tryz.prog 17 #[.slice a n c] w fun e w' => e = .returned (.string ⟨#[]⟩) ∧ Below w.heap.size w w' := by
  have ht := trim_any a n c x w (by omega) h
  rw [hz] at ht
  clear h
  go_enter Tryz.func17, Tryz.ntmps17
  go_wp2_with (go_at_call 49; refine ht.mono ?_; rintro e wA ⟨g0, cap0, rfl, hN0, hB0⟩; clear ht hN0)
  go_loopw [0, 3] (fun t0 t3 wr => t0 = .slice (some ⟨g0, 0, none⟩) 0 cap0 ∧ t3 = .slice none 0 0 ∧ Below w.heap.size w wr) (fun _ _ _ => 0)
  case atStart => exact ⟨rfl, rfl, hB0⟩
  case round =>
    obtain ⟨rfl, rfl, hB1⟩ := hrel
    go_wp2
    go_loopw [7] (fun t7 wr => t7 = .int .i64 0 ∧ Below w.heap.size w wr) (fun _ _ => 0)
    case atStart => exact ⟨rfl, hB1⟩
    case round =>
      obtain ⟨rfl, hB2⟩ := hrel
      go_wp2
      go_loopw [8, 50] (fun t8 t50 wr => t8 = .slice none 0 0 ∧ t50 = .int .i64 0 ∧ Below w.heap.size w wr) (fun _ _ _ => 0)
      case atStart => exact ⟨rfl, rfl, hB2⟩
      case round =>
        obtain ⟨rfl, rfl, hB3⟩ := hrel
        have hcv : (convert 80 9 (.slice none 0 0)).run Tryz.prog wr = .ok (.string ⟨#[]⟩) wr := by
          rw [run_convert_bytes_string wr 80 9 5 none 0 0 Tryz.underlying80 Tryz.underlying5 Tryz.underlying9]
          rfl
        go_wp2
        go_ret
        exact ⟨rfl, hB3⟩
theorem p660 {x : Nat → Int} {n : Nat} (hx : Words x) (hn : n ≤ 30) : val x n < 10 ^ 660 := by
  have h := val_bd hx n
  have h2 := p22 n
  have h3 : (10 : Int) ^ (22 * n) ≤ 10 ^ 660 := by
    obtain ⟨k, hk⟩ : ∃ k, 660 = 22 * n + k := ⟨660 - 22 * n, by omega⟩
    rw [hk, Int.pow_add]
    have h4 := p10_pos k
    have h5 := p10_pos (22 * n)
    have : (10 : Int) ^ (22 * n) * 1 ≤ 10 ^ (22 * n) * 10 ^ k := Int.mul_le_mul_of_nonneg_left (by omega) (by omega)
    omega
  omega
/-- the document's Decimal -/
theorem rdec8 {a : Option Addr} {n c : Nat} {x : Nat → Int} {w : World} (hn : n ≤ 30) (h : Num w a n c x) :
    ∃ D : List UInt8, gdD D ∧ (dV D : Int) = val x n ∧ D.length ≤ 660 ∧ ∀ W, Below w.heap.size w W → Calls Tryz.prog 17 #[.slice a n c] W fun e w' => e = .returned (.string (B D)) ∧ Below W.heap.size W w' := by
  have hx := h.2.2.1
  rcases Nat.eq_zero_or_pos (sizeL x n) with hz | hz
  · refine ⟨[], Or.inl rfl, ?_, by decide, fun W hW => rdec_zero a n c x W (by omega) (h.next hW) hz⟩
    have := val_bare (x := x) n
    rw [hz] at this
    rw [← this]; rfl
  · have hv0 : 0 < val x n := by
      rw [← val_bare n]
      exact val_pos hx _ hz (sizeL_sizeL x n)
    have h660 := p660 hx hn
    obtain ⟨d1, d2, d3⟩ := dcD_facts hv0 h660
    refine ⟨dcD (val x n) 660, d1, d2, d3, fun W hW => ?_⟩
    have hle := sizeL_le x n
    refine (rdec_any a n c x W (by omega) (h.next hW) (by omega) hz).mono fun e w' ⟨L, hL, he, hB⟩ => ⟨?_, hB⟩
    rw [he, decL_rev hv0 hL, decL_more (Int.le_of_lt hv0) hL h660, ← decL_rev hv0 h660]
    show _ = Ending.returned (.string (B (dcD (val x n) 660)))
    unfold dcD
    rw [B_of]
end Go.Proofs.YtoobncgmcnmgjaaGreatDoor

namespace Go.Proofs.YtoobncgmcnmgjaaGreatDoor
open Go.RowKit

theorem NT.head {K V : Nat} {v : Value} {w : World} (h : NT K V v w) (hV : V ≠ 0) : ∃ g k cap z0, v = .slice (some ⟨g, 0, none⟩) k cap ∧ 0 < k ∧ k ≤ K ∧ g < w.heap.size ∧ w.cell? ⟨g, 0, none⟩ = some (.int .u64 z0) ∧ 0 ≤ z0 ∧ z0 ≤ 18446744073709551615 ∧ z0 % 2 = ((V % 2 : Nat) : Int) := by
  have hz := h.zero
  obtain ⟨g, k, cap, z, rfl, hk, ⟨n1, n2, n3, n4, n5⟩, hv, hs⟩ := h
  obtain ⟨g', k', cap', e, _, hz'⟩ := hz
  cases e
  have hk0 : k ≠ 0 := fun e => hV (hz'.1 e)
  rcases n5 with ⟨n5, _⟩ | ⟨b, off, e, hb, hc⟩
  · cases n5
  · cases e
    have hc0 := hc 0 (by omega)
    have hw := n3 0
    have hp := val_odd (by omega : 0 < k) hv
    exact ⟨g, k, cap, z 0, rfl, by omega, hk, hb, hc0, hw.1, hw.2, by omega⟩
theorem enc_dg {d : Nat} (h : d ≤ 9) : Utf8.encode (48 + (d : Int)) = B [UInt8.ofNat (48 + d)] := by
  have hv : Utf8.valid (48 + (d : Int)) = true := by unfold Utf8.valid; simp; omega
  have hn : (48 + (d : Int)).toNat = 48 + d := by omega
  unfold Utf8.encode
  simp only [hv, if_true, hn, if_pos (show 48 + d < 128 by omega)]
  rfl
theorem ds_last {R Z j : Nat} (hd : dgK R Z j ≤ 9) (h : j < (B (dsN R Z (j + 1))).size) : (((B (dsN R Z (j + 1)))[j]'h).toNat : Int) = 48 + ((dgK R Z j : Nat) : Int) := by
  rw [B_get]
  simp only [dsN]
  rw [List.getElem_append_right (by rw [dsN_len]; exact Nat.le_refl _)]
  simp [dsN_len]
  omega
set_option maxHeartbeats 1000000 in
theorem number_nw {K V : Nat} {v : Value} {w : World} (h : NV K V v w) (hK : K < 100000) (hV : V < 9223372036854775808) :
    Calls Tryz.prog 35 #[v] w fun e w' => e = .returned (.int .i64 V) ∧ w' = w := by
  obtain ⟨g, k, cap, z, rfl, hk, hN, hv⟩ := h
  obtain ⟨h1, h2, h3, h4, h5⟩ := hN
  rcases h5 with ⟨h5, _⟩ | ⟨b, off, e, hb, hc⟩
  · cases h5
  · cases e
    rcases Nat.eq_zero_or_pos k with hk0 | hk0
    · subst hk0
      have : V = 0 := by have : val z 0 = 0 := rfl
                         omega
      subst this
      go_enter Tryz.func35, Tryz.ntmps35
      go_wp2
      go_ret
      exact ⟨rfl, rfl⟩
    · have hc0 := hc 0 hk0
      have hz0 := h3 0
      have e0 : z 0 = (V : Int) := by
        have hl := nv_low h3 h4 hv
        obtain ⟨j, rfl⟩ : ∃ j, k = 1 + j := ⟨k - 1, by omega⟩
        have hs := val_split z 1 j
        have hb2 := val_bd (segW_words h3 1 j) j
        have h10 : val z 1 = z 0 := by show val z 0 + z 0 * 18446744073709551616 ^ 0 = z 0; simp [val]
        rw [hv, h10] at hs
        simp only [Int.pow_one] at hs
        have hm : 0 ≤ val (segW z 1 j) j := hb2.1
        by_cases hp : 0 < val (segW z 1 j) j
        · exfalso; omega
        · have : val (segW z 1 j) j = 0 := by omega
          rw [this] at hs; omega
      have hk1 : ¬ ((k : Int) = 0) := by omega
      rw [e0] at hc0
      simp only [Nat.add_zero] at hc0
      have hkb : (k == 0) = false := by simp; omega
      have hki : (0 : Int) < k := by omega
      clear hc h3 h4 hv e0 hz0
      go_enter Tryz.func35, Tryz.ntmps35
      go_wp2
      go_ret
      exact ⟨rfl, rfl⟩
attribute [local irreducible] W4 Nz Nt NT NV
section
variable (n : Int) (Bp : Nat) (c : Int) (s g : Bool) (x : Int) (k : Nat) (w : World)
set_option maxHeartbeats 2000000 in
theorem rdig_e (E : Int) (hE : (E != 0) = true) (c16 : ∀ W, Calls Tryz.prog 16 #[.int .i64 n, A4 Bp] W fun r w' => r = .returned (.tuple #[DV c s g x k, .int .i64 E]) ∧ Below W.heap.size W w') :
    Calls Tryz.prog 11 #[.int .i64 n, A4 Bp] w fun r w' => r = .returned (.tuple #[.string (B []), .int .i64 0, .int .i64 E]) ∧ Below w.heap.size w w' := by
  have hsm := cell_set_map
  unfold DV A4 at *
  go_enter Tryz.func11, Tryz.ntmps11
  go_wp2_with (go_at_call 16; refine (c16 _).mono ?_; rintro r w1 ⟨rfl, hb1⟩; obtain ⟨hc1, hf1⟩ := bcell hb1; have hz1_0 : w.heap.size < w1.heap.size := lt_below hb1 ltg; have hl1_0 := Nat.le_of_lt hz1_0; have hA1 := bnext (w0 := w) bgo hb1; have hs1 := hA1.size; clear hb1)
  exact bodyPost_ret (v := .tuple #[.string ⟨#[]⟩, .int .i64 0, .int .i64 E]) (by simp only [results, Tryz.results11]; go_simp) rfl ⟨rfl, bgo⟩
variable (c16 : ∀ W, Calls Tryz.prog 16 #[.int .i64 n, A4 Bp] W fun r w' => r = .returned (.tuple #[DV c s g x k, .int .i64 0]) ∧ Below W.heap.size W w')
include c16
set_option maxHeartbeats 2000000 in
theorem rdig_c (hc : (c != 1) = true) :
    Calls Tryz.prog 11 #[.int .i64 n, A4 Bp] w fun r w' => r = .returned (.tuple #[.string (B []), .int .i64 0, .int .i64 6]) ∧ Below w.heap.size w w' := by
  have hsm := cell_set_map
  unfold DV A4 at *
  go_enter Tryz.func11, Tryz.ntmps11
  go_wp2_with (go_at_call 16; refine (c16 _).mono ?_; rintro r w1 ⟨rfl, hb1⟩; obtain ⟨hc1, hf1⟩ := bcell hb1; have hz1_0 : w.heap.size < w1.heap.size := lt_below hb1 ltg; have hl1_0 := Nat.le_of_lt hz1_0; have hA1 := bnext (w0 := w) bgo hb1; have hs1 := hA1.size; clear hb1)
  exact bodyPost_ret (v := .tuple #[.string ⟨#[]⟩, .int .i64 0, .int .i64 6]) (by simp only [results, Tryz.results11]; go_simp) rfl ⟨rfl, bgo⟩
variable (hc : c = 1)
include hc
set_option maxHeartbeats 2000000 in
theorem rdig_0 (h0 : k = 0) :
    Calls Tryz.prog 11 #[.int .i64 n, A4 Bp] w fun r w' => r = .returned (.tuple #[.string (B []), .int .i64 0, .int .i64 6]) ∧ Below w.heap.size w w' := by
  subst hc
  have h24 := eq24 (W4 k 0) (W4 k 1) (W4 k 2) (W4 k 3) 0 0 0 0
  rw [W4_none (by rw [h0]; decide), decide_eq_true h0] at h24
  clear h0
  have hsm := cell_set_map
  unfold DV A4 at *
  go_enter Tryz.func11, Tryz.ntmps11
  go_wp2_with (go_at_call 16; refine (c16 _).mono ?_; rintro r w1 ⟨rfl, hb1⟩; obtain ⟨hc1, hf1⟩ := bcell hb1; have hz1_0 : w.heap.size < w1.heap.size := lt_below hb1 ltg; have hl1_0 := Nat.le_of_lt hz1_0; have hA1 := bnext (w0 := w) bgo hb1; have hs1 := hA1.size; clear hb1)
  exact bodyPost_ret (v := .tuple #[.string ⟨#[]⟩, .int .i64 0, .int .i64 6]) (by simp only [results, Tryz.results11]; go_simp) rfl ⟨rfl, bgo⟩
end
end Go.Proofs.YtoobncgmcnmgjaaGreatDoor

namespace Go.Proofs.YtoobncgmcnmgjaaGreatDoor
open Go.RowKit

theorem wrap8 {dg : Nat} (h : dg ≤ 9) : IntKind.u8.wrap (48 + (dg : Int)) = 48 + (dg : Int) := by
  unfold IntKind.wrap
  simp [IntKind.bits, IntKind.signed]
  omega
section
variable {a : Act} {w : World} {K : Act → World → Prop} {Q : Exit → Act → World → Prop} {d p q : Nat} {ty : TypeId} {pos : String} {after : Array Edge} {gd : Option (Nat × Bool)}
theorem ow_mv {v : Value} (h1 : slot a p = v) (hK : K (a.put (some d) v) w) : Oper.wp Tryz.prog { dst := some d, op := Op.move (Operand.tmp p), type := ty, pos := pos, after := after, guard := gd } a w K Q := by
  unfold slot at h1
  simp [go_sem, h1]
  exact hK
theorem ow_c35 {u v : Value} {ts : Array TypeId} (h1 : slot a p = u) (hc : Calls Tryz.prog 35 #[u] w fun e w' => e = .returned v ∧ w = w') (hK : K (a.put (some d) v) w) : Oper.wp Tryz.prog { dst := some d, op := Op.call { callee := Callee.value (Operand.func 35), args := #[Operand.tmp p], argTypes := ts }, type := ty, pos := pos, after := after, guard := gd } a w K Q := by
  unfold slot at h1
  simp [go_sem, h1]
  refine hc.mono ?_
  rintro e w' ⟨rfl, rfl⟩
  exact hK
theorem ow_add {n : Nat} (hn : n ≤ 9) (h1 : slot a p = .int .i64 (n : Int)) (hK : K (a.put (some d) (.int .i64 (48 + (n : Int)))) w) : Oper.wp Tryz.prog { dst := some d, op := Op.binOp BinOp.add 3 (Operand.const (Value.int IntKind.i64 48)) (Operand.tmp p) 3, type := ty, pos := pos, after := after, guard := gd } a w K Q := by
  unfold slot at h1
  have e : IntKind.i64.wrap (48 + (n : Int)) = 48 + (n : Int) := wrap_small _ (by omega) (by omega)
  simp [go_sem, h1, e]
  first | exact hK | (rw [e]; exact hK)
theorem ow_cv8 {n : Nat} (hn : n ≤ 9) (h1 : slot a p = .int .i64 (48 + (n : Int))) (hK : K (a.put (some d) (.int .u8 (48 + (n : Int)))) w) : Oper.wp Tryz.prog { dst := some d, op := Op.convert 3 5 (Operand.tmp p), type := ty, pos := pos, after := after, guard := gd } a w K Q := by
  unfold slot at h1
  have e := wrap8 hn
  simp [go_sem, h1, e]
  exact hK
theorem ow_cvs {n : Nat} (hn : n ≤ 9) (h1 : slot a p = .int .u8 (48 + (n : Int))) (hK : K (a.put (some d) (.string (B [UInt8.ofNat (48 + n)]))) w) : Oper.wp Tryz.prog { dst := some d, op := Op.convert 5 9 (Operand.tmp p), type := ty, pos := pos, after := after, guard := gd } a w K Q := by
  unfold slot at h1
  rw [← enc_dg hn] at hK
  simp [go_sem, h1]
  exact hK
theorem ow_sum {l m : List UInt8} (hl : l.length + m.length ≤ 100000) (h1 : slot a p = .string (B l)) (h2 : slot a q = .string (B m)) (hK : K (a.put (some d) (.string (B (l ++ m)))) w) : Oper.wp Tryz.prog { dst := some d, op := Op.binOp BinOp.add 9 (Operand.tmp p) (Operand.tmp q) 9, type := ty, pos := pos, after := after, guard := gd } a w K Q := by
  unfold slot at h1 h2
  rw [← B_app] at hK
  have e1 : (B l).size = l.length := B_size l
  have e2 : (B m).size = m.length := B_size m
  simp [go_sem, h1, h2]
  rw [if_neg (by rw [e1, e2]; omega)]
  exact hK
theorem ow_as {v : Value} (h1 : slot a p = v) (hK : K (a.put (some d) v) w) : Oper.wp Tryz.prog { dst := some d, op := Op.assign (Operand.tmp p), type := ty, pos := pos, after := after, guard := gd } a w K Q := by
  unfold slot at h1
  simp [go_sem, h1]
  exact hK
end
noncomputable def opsD20 : List Oper := match Tryz.f11.body with
  | some (.seq _ (.seq _ (.seq _ (.seq _ (.seq _ (.seq _ (.seq _ (.seq _ (.seq _ (.seq _ (.seq _ (.seq _ (.seq _ (.seq _ (.seq _ (.seq _ (.block _ (.loop (.seq (.block _ (.seq _ (.seq (.region _ o _) _))) _))))))))))))))))))) => o.toList
  | _ => []
def slotsD20 : List Nat := [109, 110, 111, 112, 113, 114, 115, 22]
set_option maxHeartbeats 2000000 in
theorem regD20 {l : List UInt8} {n : Nat} {q : Value} {a0 : Act} {ws : World} {Q : Exit → Act → World → Prop} (hs : a0.tmps.size = 190) (hn : n ≤ 9) (hl : l.length ≤ 1000) (g22 : slot a0 22 = .string (B l)) (g24 : slot a0 24 = q)
    (c35 : Calls Tryz.prog 35 #[q] ws fun r w' => r = .returned (.int .i64 (n : Int)) ∧ ws = w')
    (hQ : ∀ a : Act, slot a 22 = .string (B (l ++ [UInt8.ofNat (48 + n)])) → a.tmps.size = 190 → a.defers = a0.defers → (∀ t, (∀ i, i < 8 → slotsD20.getD i 0 ≠ t) → slot a t = slot a0 t) → Q .normal a ws) :
    (Code.region 20 opsD20.toArray false).wp Tryz.prog Q a0 ws := by
  refine wp_region_lit ?_
  refine BigFrame.wpList_want rfl fun K hK => ow_mv g22 (hK _ _ ?_)
  clear K hK
  have s1 : (a0.put (some 109) (.string (B l))).tmps.size = 190 := by simp [Act.put, hs]
  have e24 : slot (a0.put (some 109) (.string (B l))) 24 = q := by rw [slot_put_ne (by decide)]; exact g24
  have e109 : slot (a0.put (some 109) (.string (B l))) 109 = .string (B l) := slot_put (by omega)
  refine BigFrame.wpList_want rfl fun K hK => ow_mv e24 (hK _ _ ?_)
  clear K hK
  generalize ha1 : (a0.put (some 109) (.string (B l))) = a1 at *
  have e110 : slot (a1.put (some 110) q) 110 = q := slot_put (by omega)
  refine BigFrame.wpList_want rfl fun K hK => ow_c35 e110 c35 (hK _ _ ?_)
  clear K hK
  have e109' : slot (a1.put (some 110) q) 109 = .string (B l) := by rw [slot_put_ne (by decide)]; exact e109
  have s2 : (a1.put (some 110) q).tmps.size = 190 := by simp [Act.put, s1]
  generalize ha2 : a1.put (some 110) q = a2 at *
  have e111 : slot (a2.put (some 111) (.int .i64 (n : Int))) 111 = .int .i64 (n : Int) := slot_put (by omega)
  refine BigFrame.wpList_want rfl fun K hK => ow_add hn e111 (hK _ _ ?_)
  clear K hK
  have e109'' : slot (a2.put (some 111) (.int .i64 (n : Int))) 109 = .string (B l) := by rw [slot_put_ne (by decide)]; exact e109'
  have s3 : (a2.put (some 111) (.int .i64 (n : Int))).tmps.size = 190 := by simp [Act.put, s2]
  generalize ha3 : a2.put (some 111) (.int .i64 (n : Int)) = a3 at *
  have e112 : slot (a3.put (some 112) (.int .i64 (48 + (n : Int)))) 112 = .int .i64 (48 + (n : Int)) := slot_put (by omega)
  refine BigFrame.wpList_want rfl fun K hK => ow_cv8 hn e112 (hK _ _ ?_)
  clear K hK
  have e109a : slot (a3.put (some 112) (.int .i64 (48 + (n : Int)))) 109 = .string (B l) := by rw [slot_put_ne (by decide)]; exact e109''
  have s4 : (a3.put (some 112) (.int .i64 (48 + (n : Int)))).tmps.size = 190 := by simp [Act.put, s3]
  generalize ha4 : a3.put (some 112) (.int .i64 (48 + (n : Int))) = a4 at *
  have e113 : slot (a4.put (some 113) (.int .u8 (48 + (n : Int)))) 113 = .int .u8 (48 + (n : Int)) := slot_put (by omega)
  refine BigFrame.wpList_want rfl fun K hK => ow_cvs hn e113 (hK _ _ ?_)
  clear K hK
  have e109b : slot (a4.put (some 113) (.int .u8 (48 + (n : Int)))) 109 = .string (B l) := by rw [slot_put_ne (by decide)]; exact e109a
  have s5 : (a4.put (some 113) (.int .u8 (48 + (n : Int)))).tmps.size = 190 := by simp [Act.put, s4]
  generalize ha5 : a4.put (some 113) (.int .u8 (48 + (n : Int))) = a5 at *
  have e114 : slot (a5.put (some 114) (.string (B [UInt8.ofNat (48 + n)]))) 114 = .string (B [UInt8.ofNat (48 + n)]) := slot_put (by omega)
  have e109c : slot (a5.put (some 114) (.string (B [UInt8.ofNat (48 + n)]))) 109 = .string (B l) := by rw [slot_put_ne (by decide)]; exact e109b
  refine BigFrame.wpList_want rfl fun K hK => ow_sum (by simp; omega) e109c e114 (hK _ _ ?_)
  clear K hK
  have s6 : (a5.put (some 114) (.string (B [UInt8.ofNat (48 + n)]))).tmps.size = 190 := by simp [Act.put, s5]
  generalize ha6 : a5.put (some 114) (.string (B [UInt8.ofNat (48 + n)])) = a6 at *
  have e115 : slot (a6.put (some 115) (.string (B (l ++ [UInt8.ofNat (48 + n)])))) 115 = .string (B (l ++ [UInt8.ofNat (48 + n)])) := slot_put (by omega)
  refine BigFrame.wpList_want rfl fun K hK => ow_as e115 (hK _ _ ?_)
  clear K hK
  have s7 : (a6.put (some 115) (.string (B (l ++ [UInt8.ofNat (48 + n)])))).tmps.size = 190 := by simp [Act.put, s6]
  generalize ha7 : a6.put (some 115) (.string (B (l ++ [UInt8.ofNat (48 + n)]))) = a7 at *
  have hd : a7.defers = a0.defers := by rw [← ha7, ← ha6, ← ha5, ← ha4, ← ha3, ← ha2, ← ha1]; simp only [Act.put]
  have s8 : (a7.put (some 22) (.string (B (l ++ [UInt8.ofNat (48 + n)])))).tmps.size = 190 := by simp [Act.put, s7]
  refine hQ _ (slot_put (by omega)) s8 hd fun t ht => ?_
  have t0 : 109 ≠ t := ht 0 (by decide)
  have t1 : 110 ≠ t := ht 1 (by decide)
  have t2 : 111 ≠ t := ht 2 (by decide)
  have t3 : 112 ≠ t := ht 3 (by decide)
  have t4 : 113 ≠ t := ht 4 (by decide)
  have t5 : 114 ≠ t := ht 5 (by decide)
  have t6 : 115 ≠ t := ht 6 (by decide)
  have t7 : 22 ≠ t := ht 7 (by decide)
  rw [slot_put_ne t7, ← ha7, slot_put_ne t6, ← ha6, slot_put_ne t5, ← ha5, slot_put_ne t4, ← ha4, slot_put_ne t3, ← ha3, slot_put_ne t2, ← ha2, slot_put_ne t1, ← ha1, slot_put_ne t0]
end Go.Proofs.YtoobncgmcnmgjaaGreatDoor

namespace Go.Proofs.YtoobncgmcnmgjaaGreatDoor
open Go.RowKit

theorem dV_snoc {l : List UInt8} {c : UInt8} (hl : l.all dg = true) (hc : dg c = true) : dV (l ++ [c]) = 10 * dV l + (c.toNat - 48) := by
  have hall : (l ++ [c]).all dg = true := by rw [List.all_append, hl]; simp [hc]
  have h1 := (dV_lt hall).2
  have h2 := (dV_lt hl).2
  have hcd : 48 ≤ c.toNat ∧ c.toNat ≤ 57 := of_decide_eq_true hc
  have hA := numV_app (s := B (l ++ [c])) (u := B [c]) l.length 1 (fun i hi => by
    rw [sb_by, sb_by, by_app_at])
  have hC := numV_app (s := B (l ++ [c])) (u := B l) 0 l.length (fun i hi => by
    rw [sb_by, sb_by, Nat.zero_add]
    unfold by_
    have hi2 : i < (l ++ [c]).length := by rw [List.length_append]; omega
    rw [dif_pos hi, dif_pos hi2, List.getElem_append_left hi])
  have e0 : numV (B (l ++ [c])) 0 = 0 := rfl
  have e1 : numV (B [c]) 1 = (c.toNat : Int) - 48 := by
    have : numV (B [c]) 1 = numV (B [c]) 0 * 10 + (sb (B [c]) 0 - 48) := rfl
    rw [this, sb_by, by_zero]
    have : numV (B [c]) 0 = 0 := rfl
    omega
  rw [Nat.zero_add, e0, Int.zero_mul, Int.zero_add] at hC
  rw [B_size] at h1 h2
  rw [show (l ++ [c]).length = l.length + 1 by simp, hA, hC, e1, ← h2] at h1
  omega
theorem dg_uniq : ∀ (n : Nat) (l l' : List UInt8), l.length = n → l'.length = n → l.all dg = true → l'.all dg = true → dV l = dV l' → l = l'
  | 0, l, l', h, h', _, _, _ => by rw [List.length_eq_zero_iff.1 h, List.length_eq_zero_iff.1 h']
  | n + 1, l, l', h, h', hd, hd', hv => by
    rcases List.eq_nil_or_concat l with rfl | ⟨m, c, rfl⟩
    · cases h
    · rcases List.eq_nil_or_concat l' with rfl | ⟨m', c', rfl⟩
      · cases h'
      · rw [List.concat_eq_append] at *
        rw [List.concat_eq_append] at *
        rw [List.all_append] at hd hd'
        simp at hd hd'
        have hm : m.all dg = true := List.all_eq_true.2 hd.1
        have hm' : m'.all dg = true := List.all_eq_true.2 hd'.1
        rw [dV_snoc hm hd.2, dV_snoc hm' hd'.2] at hv
        have c1 : 48 ≤ c.toNat ∧ c.toNat ≤ 57 := of_decide_eq_true hd.2
        have c2 : 48 ≤ c'.toNat ∧ c'.toNat ≤ 57 := of_decide_eq_true hd'.2
        have e1 : dV m = dV m' := by omega
        have e2 : c = c' := UInt8.toNat_inj.1 (by omega)
        rw [dg_uniq n m m' (by simp at h; exact h) (by simp at h'; exact h') hm hm' e1, e2]
theorem gd_uniq {l l' : List UInt8} (h : gdD l) (h' : gdD l') (hv : dV l = dV l') : l = l' := by
  rcases h with rfl | ⟨h1, h2⟩
  · rcases h' with rfl | ⟨h1', h2'⟩
    · rfl
    · unfold isd at h1'
      simp at h1'
      have := dV_ge (List.all_eq_true.2 h1'.1) h2' h1'.2
      rw [← hv, dV_nil] at this
      have := Nat.pow_pos (n := l'.length - 1) (by decide : 0 < 10)
      omega
  · rcases h' with rfl | ⟨h1', h2'⟩
    · unfold isd at h1
      simp at h1
      have := dV_ge (List.all_eq_true.2 h1.1) h2 h1.2
      rw [hv, dV_nil] at this
      have := Nat.pow_pos (n := l.length - 1) (by decide : 0 < 10)
      omega
    · unfold isd at h1 h1'
      simp at h1 h1'
      have a1 := List.all_eq_true.2 h1.1
      have a2 := List.all_eq_true.2 h1'.1
      have g1 := dV_ge a1 h2 h1.2
      have g2 := dV_ge a2 h2' h1'.2
      have l1 := (dV_lt a1).1
      have l2 := (dV_lt a2).1
      have p1 : 0 < l.length := List.length_pos_iff.2 h1.2
      have p2 : 0 < l'.length := List.length_pos_iff.2 h1'.2
      have hlen : l.length = l'.length := by
        rcases Nat.lt_trichotomy l.length l'.length with h | h | h
        · have := Nat.pow_le_pow_right (n := 10) (by decide) (show l.length ≤ l'.length - 1 by omega)
          omega
        · exact h
        · have := Nat.pow_le_pow_right (n := 10) (by decide) (show l'.length ≤ l.length - 1 by omega)
          omega
      exact dg_uniq _ l l' hlen rfl a1 a2 hv
theorem dg_ofNat {d : Nat} (h : d ≤ 9) : dg (UInt8.ofNat (48 + d)) = true := by
  unfold dg
  refine decide_eq_true ?_
  have : (UInt8.ofNat (48 + d)).toNat = 48 + d := by simp; omega
  omega
theorem ofNat_dg {d : Nat} (h : d ≤ 9) : (UInt8.ofNat (48 + d)).toNat = 48 + d := by simp; omega
theorem ds_all {R Z : Nat} (hZ : 0 < Z) (hR : R < 10 * Z) : ∀ k, (dsN R Z k).all dg = true
  | 0 => rfl
  | k + 1 => by
    simp only [dsN]
    have h := dg_ofNat (dgK_le hZ hR k)
    rw [List.all_append, ds_all hZ hR k, Bool.true_and, List.all_cons, h]
    rfl
theorem ds_first {R Z : Nat} (hZ : 0 < Z) (hR : R < 10 * Z) (hZR : Z ≤ R) : ∀ k, ∃ r, dsN R Z (k + 1) = UInt8.ofNat (48 + dgK R Z 0) :: r
  | 0 => ⟨[], rfl⟩
  | k + 1 => by
    obtain ⟨r, hr⟩ := ds_first hZ hR hZR k
    exact ⟨r ++ [UInt8.ofNat (48 + dgK R Z (k + 1))], by rw [show dsN R Z (k + 1 + 1) = dsN R Z (k + 1) ++ [UInt8.ofNat (48 + dgK R Z (k + 1))] from rfl, hr]; rfl⟩
theorem gd_cons {c : UInt8} {r : List UInt8} (h : (c :: r).all dg = true) (hc : c.toNat ≠ 48) : gdD (c :: r) := by
  refine Or.inr ⟨?_, ?_⟩
  · unfold isd; rw [h]; rfl
  · rw [by_zero]; omega
theorem dg0_pos {R Z : Nat} (hZ : 0 < Z) (hZR : Z ≤ R) : 1 ≤ dgK R Z 0 := by
  show 1 ≤ R / Z
  exact (Nat.le_div_iff_mul_le hZ).2 (by omega)
/-- digits and the next number's -/
theorem ds_inc {R Z : Nat} (hZ : 0 < Z) (hR : R < 10 * Z) (hZR : Z ≤ R) (k : Nat) (h : dgK R Z k + 1 ≤ 9) : gdD (dsN R Z k ++ [UInt8.ofNat (48 + (dgK R Z k + 1))]) ∧ dV (dsN R Z k ++ [UInt8.ofNat (48 + (dgK R Z k + 1))]) = dV (dsN R Z (k + 1)) + 1 := by
  have ha := ds_all hZ hR k
  have h0 := dg0_pos hZ hZR
  have h9 := dgK_le hZ hR 0
  constructor
  · cases k with
    | zero => exact gd_cons (r := []) (by rw [List.all_cons, dg_ofNat h]; rfl) (by rw [ofNat_dg h]; omega)
    | succ k =>
      obtain ⟨r, hr⟩ := ds_first hZ hR hZR k
      rw [hr]
      refine gd_cons (r := r ++ _) ?_ (by rw [ofNat_dg h9]; omega)
      rw [← List.cons_append, ← hr, List.all_append, ha, Bool.true_and, List.all_cons, dg_ofNat h]
      rfl
  · simp only [dsN]
    rw [dV_snoc ha (dg_ofNat h), dV_snoc ha (dg_ofNat (by omega)), ofNat_dg h, ofNat_dg (by omega)]
    omega
theorem ten_list : gdD [49, 48] ∧ dV [49, 48] = 10 := by
  refine ⟨gd_cons (by decide) (by decide), ?_⟩
  have := dV_snoc (l := [49]) (c := 48) (by decide) (by decide)
  have h1 := dV_snoc (l := []) (c := 49) (by decide) (by decide)
  have e : dV [49] = 1 := by
    rw [show ([49] : List UInt8) = [] ++ [49] from rfl, h1, dV_nil]; decide
  rw [show ([49, 48] : List UInt8) = [49] ++ [48] from rfl, this, e]; decide
theorem ds_one {R Z : Nat} (hZ : 0 < Z) (hR : R < 10 * Z) : dV (dsN R Z 1) = dgK R Z 0 := by
  have h := dgK_le hZ hR 0
  have := dV_snoc (l := []) (c := UInt8.ofNat (48 + dgK R Z 0)) (by decide) (dg_ofNat h)
  rw [show dsN R Z 1 = [] ++ [UInt8.ofNat (48 + dgK R Z 0)] from rfl, this, dV_nil, ofNat_dg h]; omega
end Go.Proofs.YtoobncgmcnmgjaaGreatDoor
