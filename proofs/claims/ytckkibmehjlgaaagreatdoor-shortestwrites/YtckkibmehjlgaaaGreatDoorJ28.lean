/-
  Texts that the proof leans on, joined: Lai, Xg, Tc, Xf, Xr, Xs, Rsm, Rdc, Xn.
-/
import Derived.Test.YtckkibmehjlgaaaGreatDoorJ13
import Derived.Lib.SmallJoins
import Derived.Test.YtckkibmehjlgaaaGreatDoorJ27
import Derived.Test.YtckkibmehjlgaaaGreatDoorJ21
import Derived.Test.YtckkibmehjlgaaaGreatDoorJ19
import Derived.Test.YtckkibmehjlgaaaGreatDoorJ26
import Derived.Test.YtckkibmehjlgaaaGreatDoorJ17
import Derived.Test.YtckkibmehjlgaaaGreatDoorJ25
set_option linter.unusedVariables false
set_option linter.unusedSimpArgs false
set_option maxRecDepth 20000
set_option linter.unusedSectionVars false
namespace Go.Proofs.YtckkibmehjlgaaaGreatDoor
open Go.RowKit

section
variable {H : Type} {enc : TypeId × Value → H} {W : World} {base : Nat} {sp : Nat → Bool} {held : Bool}
theorem u59 : ∃ a b c d, Tryz.prog.underlying 136 = some (.struct #[a, b, c, d]) ∧ a.offset = 0 ∧ b.offset = 1 ∧ c.offset = 2 ∧ d.offset = 3 ∧ a.type = 9 ∧ b.type = 3 ∧ c.type = 3 ∧ d.type = 3 :=
  ⟨_, _, _, _, Tryz.underlying136, rfl, rfl, rfl, rfl, rfl, rfl, rfl, rfl⟩
theorem c9 : Tryz.prog.cellsOf 9 = 1 := by kernel_rfl
theorem c3 : Tryz.prog.cellsOf 3 = 1 := by kernel_rfl
theorem c59 : Tryz.prog.cellsOf 136 = 4 := by kernel_rfl
theorem c60 : Tryz.prog.cellsOf 137 = 48 := by kernel_rfl
theorem u60 : Tryz.prog.underlying 137 = some (.array 12 136) := by kernel_rfl
theorem row_cells {fuel : Nat} {cs : List Value} {nm : List UInt8} {a b c : Int} {p : DataW H × List MemPlace} (hp : p.1 = .agg [.lit (.string nm), .lit (.int .i64 a), .lit (.int .i64 b), .lit (.int .i64 c)])
    (h : DataW.trod enc Tryz.prog W base sp held fuel 136 cs = some p) : cs = [.string ⟨nm.toArray⟩, .int .i64 a, .int .i64 b, .int .i64 c] := by
  obtain ⟨f0, f1, f2, f3, hu, o0, o1, o2, o3, t0, t1, t2, t3⟩ := u59
  obtain ⟨y0, y1, y2, y3, n, rfl, hl, h0, h1, h2, h3⟩ := Joins.trod_struct4 hu h
  rw [o0, t0, c9] at h0
  rw [o1, t1, c3] at h1
  rw [o2, t2, c3] at h2
  rw [o3, t3, c3] at h3
  obtain ⟨s, hs, rfl, _⟩ := DataW.trod_string Tryz.underlying9 h0
  obtain ⟨z1, hz1, rfl, _⟩ := DataW.trod_int Tryz.underlying3 h1
  obtain ⟨z2, hz2, rfl, _⟩ := DataW.trod_int Tryz.underlying3 h2
  obtain ⟨z3, hz3, rfl, _⟩ := DataW.trod_int Tryz.underlying3 h3
  simp only [DataW.agg.injEq, List.cons.injEq, DataW.lit.injEq, Lit.string.injEq, Lit.int.injEq, true_and, and_true] at hp
  obtain ⟨rfl, rfl, rfl, rfl⟩ := hp
  rw [c59] at hl
  match cs, hl with
  | [v0, v1, v2, v3], _ =>
    simp at hs hz1 hz2 hz3
    subst hs hz1 hz2 hz3
    rfl
theorem row_at {cs : List Value} {i : Nat} {v0 v1 v2 v3 : Value} (h : (cs.drop (i * 4)).take 4 = [v0, v1, v2, v3]) : cs[i * 4]? = some v0 ∧ cs[i * 4 + 1]? = some v1 ∧ cs[i * 4 + 2]? = some v2 ∧ cs[i * 4 + 3]? = some v3 := by
  have g : ∀ k, k < 4 → cs[i * 4 + k]? = [v0, v1, v2, v3][k]? := fun k hk => by
    rw [← h, List.getElem?_take_of_lt hk, List.getElem?_drop]
  exact ⟨g 0 (by decide), g 1 (by decide), g 2 (by decide), g 3 (by decide)⟩
theorem tab_of_trod {fuel : Nat} {cs : List Value} {p : List MemPlace} (h : DataW.trod enc Tryz.prog W base sp held fuel 137 cs = some (Rows.laid_caliper_desc_rows, p)) :
    ∀ i k, i < 12 → k < 4 → cs[i * 4 + k]? = some (rowV i k) := by
  cases fuel with
  | zero => simp [DataW.trod] at h
  | succ fuel =>
    simp only [DataW.trod, u60, c59, c60] at h
    split at h
    · rename_i hl
      obtain ⟨xs, hm, hx⟩ := Option.map_eq_some_iff.1 h
      have hxs := congrArg Prod.fst hx
      simp only [Rows.laid_caliper_desc_rows, DataW.agg.injEq] at hxs
      intro i k hi hk
      obtain ⟨b, hb, hf⟩ := Lib.mapM_at hm i i (by simp [hi])
      have hd : (xs.map (·.1))[i]? = some b.1 := by simp [hb]
      rw [hxs] at hd
      have key : ∀ (nm : List UInt8) (x y z : Int), b.1 = .agg [.lit (.string nm), .lit (.int .i64 x), .lit (.int .i64 y), .lit (.int .i64 z)] → cs[i * 4]? = some (.string ⟨nm.toArray⟩) ∧ cs[i * 4 + 1]? = some (.int .i64 x) ∧ cs[i * 4 + 2]? = some (.int .i64 y) ∧ cs[i * 4 + 3]? = some (.int .i64 z) :=
        fun nm x y z e => row_at (row_cells e hf)
      have hk' : k = 0 ∨ k = 1 ∨ k = 2 ∨ k = 3 := by omega
      have hi' : i = 0 ∨ i = 1 ∨ i = 2 ∨ i = 3 ∨ i = 4 ∨ i = 5 ∨ i = 6 ∨ i = 7 ∨ i = 8 ∨ i = 9 ∨ i = 10 ∨ i = 11 := by omega
      rcases hi' with rfl | rfl | rfl | rfl | rfl | rfl | rfl | rfl | rfl | rfl | rfl | rfl
      all_goals
        obtain ⟨q0, q1, q2, q3⟩ := key _ _ _ _ (Option.some.inj hd).symm
        rcases hk' with rfl | rfl | rfl | rfl
        · exact q0
        · exact q1
        · exact q2
        · exact q3
    · cases h
end
theorem tab_of_laid {W : World} {rest : List (String × DataW Unit)} (h : laidMet Tryz.prog (("caliper/desc.rows", Rows.laid_caliper_desc_rows) :: rest) W) : Tab W := by
  obtain ⟨ps, ⟨g', t', cs, fuel, p, q, hg', ht', hvar, hd, _, _⟩, _⟩ := h
  have hg : Tryz.prog.globalNamed "caliper/desc.rows" = some 0 := by kernel_rfl
  have hty : (Tryz.prog.globals[0]?).map (·.type) = some 137 := by kernel_rfl
  obtain rfl := Option.some.inj (hg.symm.trans hg')
  obtain rfl := Option.some.inj (hty.symm.trans ht')
  have hc := tab_of_trod hd
  have hcell : ∀ i k, i < 12 → k < 4 → W.cell? ⟨0, i * 4 + k, none⟩ = some (rowV i k) := fun i k hi hk => by
    have := World.var?_cell hg hvar (i * 4 + k)
    rw [this, ← hc i k hi hk]
    simp
  refine ⟨?_, hcell⟩
  have h0 := hcell 0 0 (by decide) (by decide)
  by_cases hz : 0 < W.heap.size
  · exact hz
  · have : W.heap[0]? = none := Array.getElem?_eq_none (by omega)
    simp [World.cell?, this] at h0
end Go.Proofs.YtckkibmehjlgaaaGreatDoor

namespace Go.Proofs.YtckkibmehjlgaaaGreatDoor
open Go.RowKit

section
variable {a : Act} {w : World} {K : Act → World → Prop} {Q : Exit → Act → World → Prop} {d p q p2 p3 : Nat} {ty : TypeId} {pos : String} {after : Array Edge} {gd : Option (Nat × Bool)}
end
attribute [local irreducible] W4 NT NV
end Go.Proofs.YtckkibmehjlgaaaGreatDoor

namespace Go.Proofs.YtckkibmehjlgaaaGreatDoor
open Go.RowKit

attribute [local irreducible] W4 Nt
end Go.Proofs.YtckkibmehjlgaaaGreatDoor

namespace Go.Proofs.YtckkibmehjlgaaaGreatDoor
open Go.RowKit

/-- a number without noughts ahead -/
theorem dV_ge {l : List UInt8} (hd : l.all dg = true) (h0 : by_ l 0 ≠ 48) (hl : l ≠ []) : 10 ^ (l.length - 1) ≤ dV l := by
  cases l with
  | nil => exact absurd rfl hl
  | cons c r =>
    have hr : r.all dg = true := by rw [List.all_cons] at hd; simp at hd; simpa using hd.2
    have hc : dg c = true := by rw [List.all_cons] at hd; simp at hd; exact hd.1
    unfold dg at hc
    have hc' := of_decide_eq_true hc
    rw [by_zero] at h0
    have h := numV_app (s := B (c :: r)) (u := B r) 1 (B r).size (fun i hi => by rw [sb_by, sb_by, Nat.add_comm, by_succ])
    have hs : (B (c :: r)).size = 1 + (B r).size := by rw [B_size, B_size, List.length_cons]; omega
    have h1 : numV (B (c :: r)) 1 = (c.toNat : Int) - 48 := by
      have : numV (B (c :: r)) 1 = numV (B (c :: r)) 0 * 10 + (sb (B (c :: r)) 0 - 48) := rfl
      rw [this, sb_by, by_zero]
      have : numV (B (c :: r)) 0 = 0 := rfl
      omega
    have hb := (numV_bd _ (dig_B hr)).1
    have e := (dV_lt hd).2
    rw [hs, h, h1] at e
    rw [B_size] at e hb
    have hp : ((10 : Int) ^ r.length) = ((10 ^ r.length : Nat) : Int) := by simp
    rw [hp] at e
    show 10 ^ (r.length + 1 - 1) ≤ _
    rw [Nat.add_sub_cancel]
    have hm : 1 * ((10 ^ r.length : Nat) : Int) ≤ ((c.toNat : Int) - 48) * ((10 ^ r.length : Nat) : Int) := Int.mul_le_mul_of_nonneg_right (by omega) (Int.natCast_nonneg _)
    omega
theorem dV_nil : dV [] = 0 := rfl
end Go.Proofs.YtckkibmehjlgaaaGreatDoor

namespace Go.Proofs.YtckkibmehjlgaaaGreatDoor
open Go.RowKit

attribute [local irreducible] W4
section
variable (n d : Int) (l : List UInt8) (q : Prt) (nm : ByteArray) (wd : Int) (f e : Nat) (lo m : Int) (w : World)
variable (c22 : ∀ W, Calls Tryz.prog 41 #[.int .i64 n] W fun r w' => r = .returned (.bool true) ∧ W = w')
include c22

end
end Go.Proofs.YtckkibmehjlgaaaGreatDoor

namespace Go.Proofs.YtckkibmehjlgaaaGreatDoor
open Go.RowKit

/-- the parts with this sign -/
def Prt.at (p : Prt) (s : Bool) : Prt := ⟨p.cls, s, p.sn, p.dig, p.ex⟩
/-! Make by value -/
/-! Read by value -/
end Go.Proofs.YtckkibmehjlgaaaGreatDoor

namespace Go.Proofs.YtckkibmehjlgaaaGreatDoor
open Go.RowKit

set_option maxHeartbeats 400000 in
theorem ofb_any (c : Int) (w : World) (hc : 0 ≤ c ∧ c ≤ 18446744073709551615) :
    Calls Tryz.prog 83 #[.int .u64 c] w fun e w' => ∃ g k cap z, e = .returned (.slice (some ⟨g, 0, none⟩) k cap) ∧ k ≤ 1 ∧ Num w' (some ⟨g, 0, none⟩) k cap z ∧ val z k = c ∧ Below w.heap.size w w' := by
  have hN := num_one w c hc
  have hT := trim_any _ 1 1 (oneW c) _ (by omega) hN
  have hle := sizeL_le (oneW c) 1
  have HV : Hid (val (oneW c) (sizeL (oneW c) 1) = c) := by show _ = _; rw [val_bare, val_one _ 1 (by omega)]
  have HB := below1 w (.cells #[.int .u64 c] 22)
  generalize sizeL (oneW c) 1 = s at *
  clear hN
  go_enter Tryz.func83, Tryz.ntmps83
  go_wp2_with (go_at_call 49; refine hT.mono ?_; rintro e w1 ⟨g, cap, rfl, hN, hB⟩)
  go_ret
  exact ⟨g, s, cap, _, rfl, hle, hN, HV.out, HB.trans (hB.mono HB.size)⟩
/-- the quotient's words from k on -/
def quoKb (x : Nat → Int) (d : Int) (s k i : Nat) : Int := if k ≤ i ∧ i < s then quoW x d s i else 0
set_option maxHeartbeats 1000000 in
theorem smb_any (a : Option Addr) (s c : Nat) (x : Nat → Int) (d : Int) (w : World) (hs : s < 100000) (h : Num w a s c x) (hd : 0 < d ∧ d ≤ 18446744073709551615) :
    Calls Tryz.prog 50 #[.slice a s c, .int .u64 d] w fun e w' => ∃ g k cap z g' k' cap' z', e = .returned (.tuple #[.slice (some ⟨g, 0, none⟩) k cap, .slice (some ⟨g', 0, none⟩) k' cap']) ∧ k ≤ s ∧ k' ≤ 1 ∧ Num w' (some ⟨g, 0, none⟩) k cap z ∧ Num w' (some ⟨g', 0, none⟩) k' cap' z' ∧ val z k = val x s / d ∧ sizeL z k = k ∧ val z' k' = val x s % d ∧ Below w.heap.size w w' := by
  have hx := h.2.2.1
  have H := fun j hj w => limDiv_ok x d s hx hd j hj w
  have hd0 : (d == 0) = false := by simp; omega
  have hmk := fun w => make_any (s : Int) s rfl (by omega) w
  have hA := apart_of h
  have hBW := below1 w (.cells (arrOf (fun _ => 0) s) 22)
  have hnx := h.next hBW
  have hO := Own.new w (fun _ => 0) s
  have hqv := quo_val hx hd.1 s
  have HQW : Hid (Words (quoW x d s)) := quoW_words hx hd.1 s
  have hrb := remJ_bd x d s s hd.1
  have HB : Hid (Below w.heap.size w (w.alloc (.cells (arrOf (fun _ => 0) s) 22))) := hBW
  clear hBW h hx
  go_enter Tryz.func50, Tryz.ntmps50
  go_wp2
  generalize w.alloc (.cells (arrOf (fun _ => 0) s) 22) = wA at *
  go_loopw [7, 8, 19] (fun c i u19 wr => ∃ (k : Nat), k ≤ s ∧ i = .int .i64 ((k : Int) - 1) ∧ c = .int .u64 (remJ x d s (s - k)) ∧ Own w.heap.size s (quoKb x d s k) wr ∧ Upd w.heap.size wA wr) (fun _ i _ _ => (intOf i + 1).toNat)
  case atStart => exact ⟨s, Nat.le_refl _, by go_num, by rw [Nat.sub_self]; rfl, hO.congr fun i _ => by unfold quoKb; rw [if_neg (by omega)], Upd.refl _ _⟩
  case round =>
    clear hO
    obtain ⟨k, hk, rfl, rfl, hO, hU⟩ := hrel
    by_cases h0 : k = 0
    · subst h0
      have hN := hO.num (x := quoKb x d s 0) (fun i => by unfold quoKb; split; exact HQW.out i; decide) 0 s s (by omega) (Nat.le_refl _) (by unfold maxLen; omega)
      have hT := trim_any _ s s _ _ (by omega) hN
      have hle := sizeL_le (segW (quoKb x d s 0) 0 s) s
      have HV : Hid (val (segW (quoKb x d s 0) 0 s) (sizeL (segW (quoKb x d s 0) 0 s) s) = val x s / d) := by
        show _ = _
        rw [val_bare, val_congr (y := quoW x d s) s fun i hi => by rw [segW_lt _ _ _ i hi, Nat.zero_add]; unfold quoKb; rw [if_pos (by omega)], hqv.1]
      have HR : Hid (remJ x d s s = val x s % d) := hqv.2
      have HBr : Hid (Below w.heap.size w wr) := HB.out.trans (hU.below (Nat.le_refl _))
      have HST : Hid (sizeL (segW (quoKb x d s 0) 0 s) (sizeL (segW (quoKb x d s 0) 0 s) s) = sizeL (segW (quoKb x d s 0) 0 s) s) := sizeL_sizeL _ _
      generalize segW (quoKb x d s 0) 0 s = qz at *
      generalize sizeL qz s = k1 at *
      have hof := fun wr => ofb_any (remJ x d s s) wr (by omega)
      rw [Nat.sub_zero]
      generalize remJ x d s s = rm at *
      clear hN hO hU H hqv
      go_wp2_with (go_at_call 49; refine hT.mono ?_; rintro e w1 ⟨g, cap, rfl, hN1, hB1⟩; clear hT)
      go_wp2_with (go_at_call 83; refine (hof _).mono ?_; rintro e w2 ⟨g2, k2, p2, z2, rfl, hk2, hN2, hv2, hB2⟩; clear hof)
      go_ret2
      exact ⟨g, k1, cap, qz, g2, k2, p2, z2, rfl, hle, hk2, hN1.next hB2, hN2, HV.out, HST.out, by rw [hv2, HR.out], (HBr.out.trans (hB1.mono HBr.out.size)).trans (hB2.mono (Nat.le_trans HBr.out.size hB1.size))⟩
    · obtain ⟨j, rfl⟩ : ∃ j, k = j + 1 := ⟨k - 1, by omega⟩
      have hjm : (j : Int) < s := by omega
      have ej : ((j + 1 : Nat) : Int) - 1 = j := by omega
      have ej2 : s - (j + 1) = s - 1 - j := by omega
      rw [ej, ej2]
      obtain ⟨b, off, rfl, hbs, hc⟩ := (hU.num' hA hnx).cells (by omega)
      have hcx := hc j (by omega)
      have hcj : ∃ u, wr.cell? ⟨w.heap.size, j, none⟩ = some (.int .u64 u) := ⟨_, hO.cell j (by omega)⟩
      obtain ⟨u, hcj⟩ := hcj
      have hfj := hO.frozen j
      have HJ := H j (by omega)
      have HO : Hid (Own w.heap.size s (quoKb x d s j) (wr.setCell ⟨w.heap.size, j, none⟩ (.int .u64 (quoW x d s j)))) := (hO.set j (quoW x d s j)).congr fun i hi => by
        unfold quoKb
        by_cases e : i = j
        · subst e; rw [if_pos rfl, if_pos (by omega)]
        · rw [if_neg e]
          by_cases e2 : j + 1 ≤ i ∧ i < s
          · rw [if_pos e2, if_pos (by omega)]
          · rw [if_neg e2, if_neg (by omega)]
      have HU : Hid (Upd w.heap.size wA (wr.setCell ⟨w.heap.size, j, none⟩ (.int .u64 (quoW x d s j)))) := hU.set j _
      clear hO hU H ej ej2 hc hqv hA hnx
      go_wp2_with (go_at_call 82; refine (HJ _).mono ?_; rintro e w' ⟨rfl, m', rfl⟩)
      go_roundw
      case rel => exact ⟨j, by omega, by go_num, rfl, HO.out, HU.out.drewN m'⟩
      case measure => simp [intOf]
end Go.Proofs.YtckkibmehjlgaaaGreatDoor

namespace Go.Proofs.YtckkibmehjlgaaaGreatDoor
open Go.RowKit

theorem Tryz.info5d : (Tryz.prog.info? 5).map (fun i => (i.zero, i.size, i.bytes)) = some (some (.int .u8 0), 1, 1) := by kernel_rfl

theorem dgt_step18 {V r : Int} {L j : Nat} (hr : V / 10 ^ L % 10 ^ 18 = r) (hj : j < 18) : r / 10 ^ j % 10 = dgt V (L + j) := by
  unfold dgt
  rw [← div_div10]
  generalize V / 10 ^ L = W at *
  subst hr
  have h1 : (10 : Int) ^ 18 = 10 ^ j * (10 * 10 ^ (17 - j)) := by
    rw [← Int.mul_assoc, ← Int.pow_succ, ← Int.pow_add]; congr 1; omega
  have hp := p10_pos j
  have hp2 := p10_pos (17 - j)
  rw [h1, emod_mul_ediv' hp]
  exact Int.emod_emod_of_dvd _ ⟨10 ^ (17 - j), rfl⟩
theorem lt_sizeL {V : Int} (h0 : 0 ≤ V) : ∀ L, V < 10 ^ L → V < 10 ^ (sizeL (dgt V) L)
  | 0, h => h
  | L + 1, h => by
    by_cases e : dgt V L = 0
    · have e1 : sizeL (dgt V) (L + 1) = sizeL (dgt V) L := by simp [sizeL, e]
      rw [e1]
      refine lt_sizeL h0 L ?_
      unfold dgt at e
      have hp := p10_pos L
      rw [Int.pow_succ] at h
      have h1 : V / 10 ^ L < 10 := Int.ediv_lt_of_lt_mul hp (by omega)
      have h2 : 0 ≤ V / 10 ^ L := Int.ediv_nonneg h0 (by omega)
      have h3 : V / 10 ^ L = 0 := by omega
      have := Int.lt_mul_ediv_self_add (x := V) (k := 10 ^ L) hp
      rw [h3] at this; omega
    · have e1 : sizeL (dgt V) (L + 1) = L + 1 := by simp [sizeL, e]
      rw [e1]; exact h
theorem owns_below {w w' : World} {base n : Nat} {v : Value} {xs : List Value} (h : w.ownsRow base 5 1 v n xs) (hB : Below w.heap.size w w') : w'.ownsRow base 5 1 v n xs := by
  obtain ⟨h1, h2⟩ := h
  refine ⟨h1, ?_⟩
  rcases h2 with h2 | ⟨g', cap, cur, e, hb, hh, r⟩
  · exact Or.inl h2
  · have hg : g' < w.heap.size := by
      rcases Nat.lt_or_ge g' w.heap.size with h' | h'
      · exact h'
      · rw [Array.getElem?_eq_none h'] at hh; cases hh
    exact Or.inr ⟨g', cap, cur, e, hb, (hB.block g' hg).trans hh, r⟩
theorem num_grown {w w' : World} {V : Int} {g k cap base L cp : Nat} {ao : Option Addr} {z : Nat → Int} (hN : Num w (some ⟨g, 0, none⟩) k cap z) (hown : w.ownsRow base 5 1 (.slice ao L cp) L (blB V L)) (hao : ao = none ∨ 0 < L) (hg : w.grownBy w' (Value.slice ao L cp).ownBlock) : Num w' (some ⟨g, 0, none⟩) k cap z := by
  obtain ⟨h1, h2, h3, h4, h5⟩ := hN
  rcases h5 with ⟨h, _⟩ | ⟨b, off, e, hb, hc⟩
  · cases h
  · cases e
    refine ⟨h1, h2, h3, h4, Or.inr ⟨g, 0, rfl, Nat.lt_of_lt_of_le hb hg.size, fun i hi => ?_⟩⟩
    have hne : some g ≠ (Value.slice ao L cp).ownBlock := by
      intro e
      rcases ao with _ | ⟨b', o', s'⟩
      · cases e
      · have hL : 0 < L := by rcases hao with h | h; cases h; exact h
        obtain ⟨g', cap', e2, _⟩ := hown.form hL
        cases e2
        cases e
        have h6 := hc 0 (by omega)
        rw [Nat.add_zero, hown.cellAt 0 (by omega)] at h6
        simp [blB, hL] at h6
    exact (hg.cell_far ⟨g, 0 + i, none⟩ hb hne).trans (hc i hi)
/-- in the middle of the work: the digits so far, and the rest to come -/
def DS (w0 : World) (V : Int) (ao : Option Addr) (L cp g k cap : Nat) (z : Nat → Int) (wr : World) : Prop :=
  wr.ownsRow w0.heap.size 5 1 (.slice ao L cp) L (blB V L) ∧ (ao = none ∨ 0 < L) ∧ Num wr (some ⟨g, 0, none⟩) k cap z ∧ Below w0.heap.size w0 wr
def revL (V : Int) (K : Nat) : List Int := (List.range K).map fun i => 48 + dgt V (K - 1 - i)
def rl (V : Int) (K i : Nat) : List Value := (List.range i).map fun q => Value.int .u8 (48 + dgt V (K - 1 - q))
theorem rl_succ (V : Int) (K i : Nat) : rl V K i ++ [Value.int .u8 (48 + dgt V (K - 1 - i))] = rl V K (i + 1) := by simp [rl, List.range_succ]

set_option maxRecDepth 20000 in
set_option maxHeartbeats 4000000 in
theorem rdec_any (a : Option Addr) (n c : Nat) (x : Nat → Int) (w : World) (hn : n < 100000) (h : Num w a n c x) (hsz : sizeL x n ≤ 2000) (hpos : 0 < sizeL x n) :
    Calls Tryz.prog 17 #[.slice a n c] w fun e w' => ∃ L, val x n < 10 ^ L ∧ e = .returned (.string (strOfNums (revL (val x n) (sizeL (dgt (val x n)) L)))) ∧ Below w.heap.size w w' := by
  have ht := trim_any a n c x w (by omega) h
  obtain ⟨s, hs⟩ : ∃ s, sizeL x n = s := ⟨_, rfl⟩
  have hss := sizeL_sizeL x n
  have hx := h.2.2.1
  rw [← val_bare n]
  rw [hs] at ht hsz hss hpos ⊢
  obtain ⟨V, hV⟩ : ∃ V, val x s = V := ⟨_, rfl⟩
  have hV0 : 0 < V := by rw [← hV]; exact val_pos hx s hpos hss
  rw [hV]
  have HVB : Hid (V < 18446744073709551616 ^ s) := by show _ < _; rw [← hV]; exact (val_bd hx s).2
  have HV : Hid (val x s = V) := hV
  have HSS : Hid (sizeL x s = s) := hss
  clear h hs hV hss hx
  go_enter Tryz.func17, Tryz.ntmps17
  go_wp2_with (go_at_call 49; refine ht.mono ?_; rintro e wA ⟨g0, cap0, rfl, hN0, hB0⟩; clear ht)
  go_loopw [0, 3, 4, 5, 6, 15, 22] (fun t0 t3 u4 u5 u6 u15 u22 wr => ∃ (L k cp g cap : Nat) (ao : Option Addr) (z : Nat → Int), t3 = .slice ao L cp ∧ t0 = .slice (some ⟨g, 0, none⟩) k cap ∧ k ≤ s ∧ L ≤ 22 * s + 18 ∧ Hid (sizeL z k = k ∧ val z k = V / 10 ^ L) ∧ Hid (DS w V ao L cp g k cap z wr)) (fun _ t3 _ _ _ _ _ _ => 22 * s + 19 - slLen t3)
  case atStart => exact ⟨0, s, 0, g0, cap0, none, x, rfl, rfl, Nat.le_refl _, by omega, ⟨HSS.out, by rw [HV.out]; simp⟩, ⟨World.ownsRow_nil _ _ _ _, Or.inl rfl, hN0, hB0⟩⟩
  case round =>
    clear hN0 hB0
    obtain ⟨L, k, cp, g, cap, ao, z, rfl, rfl, hk, hLs, hzv, hst⟩ := hrel
    by_cases h0 : k = 0
    · subst h0
      have hVL : V < 10 ^ L := by
        have e : V / 10 ^ L = 0 := hzv.out.2.symm
        have := Int.lt_mul_ediv_self_add (x := V) (k := 10 ^ L) (p10_pos L)
        rw [e] at this; simpa using this
      have HVL : Hid (V < 10 ^ L) := hVL
      have hKp : 0 < sizeL (dgt V) L := by
        rcases Nat.eq_zero_or_pos (sizeL (dgt V) L) with e | e
        · have := lt_sizeL (Int.le_of_lt hV0) L hVL
          rw [e] at this; simp at this; omega
        · exact e
      have hL0 : 0 < L := Nat.lt_of_lt_of_le hKp (sizeL_le _ _)
      obtain ⟨hown, hao, hN, hB⟩ := hst.out
      obtain ⟨gb, capb, e2, hbg, hgb⟩ := hown.form hL0
      cases e2
      obtain ⟨_, hLc, hcm, hHB⟩ := owns_cells hown
      have HHB : Hid (HasB gb L (fun i => 48 + dgt V i) wr) := hHB
      have HB : Hid (Below w.heap.size w wr) := hB
      clear hst hown hao hN hB hHB hzv hVL
      go_wp2
      go_loop [7] (fun t7 => ∃ m : Nat, m ≤ L ∧ t7 = .int .i64 m ∧ Hid (sizeL (dgt V) m = sizeL (dgt V) L)) (fun t7 => (intOf t7).toNat)
      case atStart => exact ⟨L, Nat.le_refl _, rfl, rfl⟩
      case round =>
        obtain ⟨m, hm, rfl, hmK⟩ := hrel
        by_cases hm0 : m = 0
        · subst hm0
          have := hmK.out
          simp [sizeL] at this
          omega
        · obtain ⟨j, rfl⟩ : ∃ j, m = j + 1 := ⟨m - 1, by omega⟩
          have hcj : wr.cell? ⟨gb, j, none⟩ = some (.int .u8 (48 + dgt V j)) := (HHB.out.2 j (by omega)).1
          have hdb := dgt_bd V j
          by_cases hzj : dgt V j = 0
          · have HS : Hid (sizeL (dgt V) j = sizeL (dgt V) L) := by
              have : sizeL (dgt V) (j + 1) = sizeL (dgt V) j := by simp [sizeL, hzj]
              exact this.symm.trans hmK.out
            clear hmK
            rw [hzj] at hcj
            go_wp2
            go_round
            case rel => exact ⟨j, by omega, by go_num, HS.out⟩
            case measure => simp [intOf]
          · have HS : Hid (sizeL (dgt V) L = j + 1) := by
              have : sizeL (dgt V) (j + 1) = j + 1 := by simp [sizeL, hzj]
              exact hmK.out.symm.trans this
            have hne : (48 + dgt V j == 48) = false := by simp; omega
            clear hmK
            generalize dgt V j = dj at hcj hdb hzj hne
            go_wp2
            clear hcj hdb hzj hne
            have HK : Hid (0 < j + 1 ∧ j + 1 ≤ L) := by show _ ∧ _; omega
            rename World => wB
            go_loopw [8, 9, 50] (fun t8 u9 t50 wr => ∃ (i cp2 : Nat) (ao2 : Option Addr), i ≤ (j + 1) ∧ t8 = .slice ao2 i cp2 ∧ t50 = .int .i64 i ∧ Hid (wr.ownsRow wB.heap.size 5 1 (.slice ao2 i cp2) i (rl V (j + 1) i) ∧ Below wB.heap.size wB wr)) (fun _ _ t50 _ => (j + 1) - (intOf t50).toNat)
            case atStart => exact ⟨0, 0, none, Nat.zero_le _, rfl, rfl, ⟨World.ownsRow_nil _ _ _ _, Below.refl _ _⟩⟩
            case round =>
              obtain ⟨i, cp2, ao2, hi, rfl, rfl, hst2⟩ := hrel
              obtain ⟨hown2, hB2⟩ := hst2.out
              by_cases hik : i < (j + 1)
              · obtain ⟨q, hq⟩ : ∃ q, (j + 1) - 1 - i = q := ⟨_, rfl⟩
                have e1 : ((j : Int) - i).toNat = q := by omega
                have e2 : 0 ≤ (j : Int) - i := by omega
                have e3 : (j : Int) - i < L := by have := HK.out.2; omega
                have hii : (i : Int) < (j : Int) + 1 := by omega
                have hcq : wr.cell? ⟨gb, q, none⟩ = some (.int .u8 (48 + dgt V q)) := (World.cell?_of_block (hB2.block gb hgb)).trans (HHB.out.2 q (by have := HK.out.2; omega)).1
                have hdb := dgt_bd V q
                have HDV : Hid (dgt V q = dgt V ((j + 1) - 1 - i)) := by show _ = _; rw [hq]
                generalize dgt V q = dq at *
                obtain ⟨i0, hi0, hz0, hz1, hz2⟩ := info_parts Tryz.info5d
                have HOWN : (wr.alloc (.cells #[.int .u8 (48 + dq)] 5)).ownsRow wB.heap.size 5 1 (.slice ao2 i cp2) i (rl V (j + 1) i) := hown2.alloc _
                have HNEWS : ∀ (q : Nat) (u : Value), [Value.int .u8 (48 + dq)][q]? = some u → (wr.alloc (.cells #[.int .u8 (48 + dq)] 5)).cell? ((⟨wr.heap.size, 0, none⟩ : Addr).add q) = some u := by
                  intro q u hq
                  match q, hq with
                  | 0, hq => simp at hq; subst hq; simp [Addr.add]
                have HONE : ∀ u ∈ [Value.int .u8 (48 + dq)], u.oneCell' = true := by
                  intro u hu; simp at hu; subst hu; rfl
                have HOF : Hid (∀ q, (Value.slice ao2 i cp2).ownBlock = some q → wB.heap.size ≤ q) := fun q hq => (hown2.lt q hq).1
                have hb2s := hB2.size
                have HB2 : Hid (Below wB.heap.size wB wr) := hB2
                have HKL := HK.out.2
                clear hst2 hown2 hB2 hq
                go_wp2_with (first | (at_builtin; refine wpList_append_lies _ rfl (.tmp 53) (.tmp 61) 80 rfl wB.heap.size 5 i0 (.int .u8 0) 1 1 Tryz.underlying80 hi0 hz0 hz1 hz2 rfl (by decide) (.slice ao2 i cp2) i (rl V (j + 1) i) rfl HOWN ⟨wr.heap.size, 0, none⟩ 1 1 [Value.int .u8 (48 + dq)] rfl rfl HNEWS HONE (by omega) (by unfold maxLen; omega) (by omega) (by simp; omega) (wr.heap.size + 1) (by simp) ?_; intro g1 cap1 w1 hown1 hgrow hat hlt1; clear HOWN HNEWS HONE))
                have HB3 : Below wB.heap.size wr w1 := ((Below.refl _ wr).alloc hb2s _).grown hgrow (by simp; omega) HOF.out
                have HST : Hid (w1.ownsRow wB.heap.size 5 1 (.slice (some ⟨g1, 0, none⟩) (i + 1) cap1) (i + 1) (rl V (j + 1) (i + 1)) ∧ Below wB.heap.size wB w1) := by
                  refine ⟨?_, HB2.out.trans HB3⟩
                  rw [HDV.out, rl_succ] at hown1; exact hown1
                clear hown1 hgrow HB3
                go_wp2
                go_roundw
                case rel => exact ⟨i + 1, cap1, some ⟨g1, 0, none⟩, by omega, rfl, by go_num, HST.out⟩
                case measure => simp [intOf]; omega
              · obtain rfl : i = j + 1 := by omega
                obtain ⟨g2, cap2, e2, _⟩ := hown2.form HK.out.1
                cases e2
                have hcc : ∀ q, q < j + 1 → wr.cell? ⟨g2, q, none⟩ = some (.int .u8 (48 + dgt V (j + 1 - 1 - q))) := fun q hq => by
                  rw [hown2.cellAt q (by omega)]; simp [rl, hq]
                have hcv := run_convert_bytes_arg (P := Tryz.prog) wr 80 5 Tryz.underlying80 Tryz.underlying5 g2 0 (j + 1) cp2 (revL V (j + 1)) (by simp [revL]) (fun q hq => by rw [Nat.zero_add, hcc q hq]; simp [revL, hq]) 9 Tryz.underlying9
                have HB3 : Hid (Below w.heap.size w wr) := HB.out.trans (hB2.mono HB.out.size)
                clear hst2 hown2 hB2 hcc
                go_wp2
                go_ret
                exact ⟨L, HVL.out, by rw [HS.out]; rfl, HB3.out⟩
    · have hk0 : (0 : Int) < k := by omega
      obtain ⟨hown, hao, hN, hB⟩ := hst.out
      have hz := hN.2.2.1
      have hL : L < 22 * s := by
        have h1 := val_pos hz k (by omega) hzv.out.1
        rw [hzv.out.2] at h1
        refine p10_lt (Int.lt_of_le_of_lt ?_ HVB.out)
        have h2 := p10_pos L
        rcases Int.lt_or_le V (10 ^ L) with h3 | h3
        · rw [Int.ediv_eq_zero_of_lt (Int.le_of_lt hV0) h3] at h1; omega
        · exact h3
      have hsm := smb_any (some ⟨g, 0, none⟩) k cap z 1000000000000000000 wr (by omega) hN (by decide)
      have HQ : Hid (val z k / 1000000000000000000 = V / 10 ^ (L + 18)) := by show _ = _; rw [hzv.out.2, ← div_div10]; rfl
      have HR0 : Hid (val z k % 1000000000000000000 = V / 10 ^ L % 10 ^ 18) := by show _ = _; rw [hzv.out.2]; rfl
      have HOW : Hid (wr.ownsRow w.heap.size 5 1 (.slice ao L cp) L (blB V L)) := hown
      have HB : Hid (Below w.heap.size w wr) := hB
      clear hst hown hN hB hz hzv
      go_wp2_with (first | (go_at_call 50; refine hsm.mono ?_; rintro e w1 ⟨g1, k1, cap1, z1, g2, k2, cap2, z2, rfl, hk1, hk2, hN1, hN2, hv1, hs1, hv2, hB1⟩; clear hsm; have hwd := word_any (some ⟨g2, 0, none⟩) k2 cap2 0 z2 w1 hN2) | (go_at_call 51; refine hwd.mono ?_; rintro e w1' ⟨rfl, hww⟩; subst hww; clear hwd))
      have hr : V / 10 ^ L % 10 ^ 18 = z2 0 := by
        rw [← HR0.out, ← hv2]
        rcases Nat.eq_zero_or_pos k2 with e | e
        · subst e; rw [hN2.2.2.2.1 0 (Nat.le_refl _)]; rfl
        · have : k2 = 1 := by omega
          subst this; simp [val]
      have HR : Hid (∀ j, j < 18 → z2 0 / 10 ^ j % 10 = dgt V (L + j)) := fun j hj => dgt_step18 hr hj
      have hrb := hN2.2.2.1 0
      have hst1 : Hid (DS w V ao L cp g1 k1 cap1 z1 w1') := ⟨owns_below HOW.out hB1, hao, hN1, HB.out.trans (hB1.mono HB.out.size)⟩
      have HZ1 : Hid (sizeL z1 k1 = k1 ∧ val z1 k1 = V / 10 ^ (L + 18)) := ⟨hs1, by rw [hv1, HQ.out]⟩
      generalize z2 0 = r at *
      clear hN1 hN2 hB1 hr hv1 hv2 hs1 HQ HR0 HOW HB
      go_loopw [3, 6, 22] (fun t3 t6 t22 wr => ∃ (j cp : Nat) (ao : Option Addr), j ≤ 18 ∧ t3 = .slice ao (L + j) cp ∧ t6 = .int .u64 (r / 10 ^ j) ∧ t22 = .int .i64 j ∧ Hid (DS w V ao (L + j) cp g1 k1 cap1 z1 wr)) (fun _ _ t22 _ => 18 - (intOf t22).toNat)
      case atStart => exact ⟨0, cp, ao, by omega, rfl, by simp, rfl, hst1⟩
      case round =>
        clear hst1
        obtain ⟨j, cp2, ao2, hj, rfl, rfl, rfl, hst2⟩ := hrel
        by_cases hj18 : j < 18
        · have hji : (j : Int) < 18 := by omega
          have hp : 0 ≤ r / 10 ^ j ∧ r / 10 ^ j ≤ 18446744073709551615 := by
            have h1 := p10_pos j
            have h2 := Int.ediv_nonneg hrb.1 (Int.le_of_lt h1)
            have h3 : r / 10 ^ j ≤ r := Int.ediv_le_self _ hrb.1
            omega
          have HP : Hid (r / 10 ^ (j + 1) = r / 10 ^ j / 10) := by
            show _ = _
            rw [Int.pow_succ, ← Int.ediv_ediv_of_nonneg (Int.le_of_lt (p10_pos j))]
          have HVAL : Hid (r / 10 ^ j % 10 = dgt V (L + j)) := HR.out j hj18
          generalize r / 10 ^ j = p at *
          obtain ⟨i0, hi0, hz0, hz1, hz2⟩ := info_parts Tryz.info5d
          obtain ⟨hown, hao2, hN, hB⟩ := hst2.out
          have HOWN : (wr.alloc (.cells #[.int .u8 (48 + p % 10)] 5)).ownsRow w.heap.size 5 1 (.slice ao2 (L + j) cp2) (L + j) (blB V (L + j)) := hown.alloc _
          have HO2 : Hid ((wr.alloc (.cells #[.int .u8 (48 + p % 10)] 5)).ownsRow w.heap.size 5 1 (.slice ao2 (L + j) cp2) (L + j) (blB V (L + j))) := HOWN
          have HN2 : Hid (Num (wr.alloc (.cells #[.int .u8 (48 + p % 10)] 5)) (some ⟨g1, 0, none⟩) k1 cap1 z1) := hN.next (below1 wr _)
          have HNEWS : ∀ (q : Nat) (u : Value), [Value.int .u8 (48 + p % 10)][q]? = some u → (wr.alloc (.cells #[.int .u8 (48 + p % 10)] 5)).cell? ((⟨wr.heap.size, 0, none⟩ : Addr).add q) = some u := by
            intro q u hq
            match q, hq with
            | 0, hq => simp at hq; subst hq; simp [Addr.add]
          have HONE : ∀ u ∈ [Value.int .u8 (48 + p % 10)], u.oneCell' = true := by
            intro u hu; simp at hu; subst hu; rfl
          have HOF : Hid (∀ q, (Value.slice ao2 (L + j) cp2).ownBlock = some q → w.heap.size ≤ q) := fun q hq => (hown.lt q hq).1
          have hbs := hB.size
          have HB : Hid (Below w.heap.size w wr) := hB
          clear hown hN hB hst2
          go_wp2_with (first | (at_builtin; refine wpList_append_lies _ rfl (.tmp 24) (.tmp 29) 80 rfl w.heap.size 5 i0 (.int .u8 0) 1 1 Tryz.underlying80 hi0 hz0 hz1 hz2 rfl (by decide) (.slice ao2 (L + j) cp2) (L + j) (blB V (L + j)) rfl HOWN ⟨wr.heap.size, 0, none⟩ 1 1 [Value.int .u8 (48 + p % 10)] rfl rfl HNEWS HONE (by omega) (by unfold maxLen; omega) (by omega) (by simp; omega) (wr.heap.size + 1) (by simp) ?_; intro g3 cap3 w3 hown1 hgrow hat hlt1; clear HOWN HNEWS HONE))
          have HB3 : Below w.heap.size wr w3 := ((Below.refl _ wr).alloc hbs _).grown hgrow (by simp; omega) HOF.out
          have HST : Hid (DS w V (some ⟨g3, 0, none⟩) (L + (j + 1)) cap3 g1 k1 cap1 z1 w3) := by
            refine ⟨?_, Or.inr (by omega), num_grown HN2.out HO2.out hao2 hgrow, HB.out.trans HB3⟩
            rw [HVAL.out, blB_succ] at hown1; exact hown1
          clear hown1 hgrow HB3
          go_wp2
          go_roundw
          case rel => exact ⟨j + 1, cap3, some ⟨g3, 0, none⟩, by omega, rfl, by rw [HP.out], by go_num, HST.out⟩
          case measure => simp [intOf]; omega
        · obtain rfl : j = 18 := by omega
          go_wp2
          go_roundw
          case rel => exact ⟨L + 18, k1, cp2, g1, cap1, ao2, z1, rfl, rfl, by omega, by omega, HZ1.out, hst2⟩
          case measure => simp [slLen]; omega
end Go.Proofs.YtckkibmehjlgaaaGreatDoor

namespace Go.Proofs.YtckkibmehjlgaaaGreatDoor
open Go.RowKit

theorem decL_rev {V : Int} {L : Nat} (h0 : 0 < V) (h : V < 10 ^ L) : revL V (sizeL (dgt V) L) = decL V L := by
  unfold decL revL
  rw [if_neg]
  intro e
  have := lt_sizeL (Int.le_of_lt h0) L h
  rw [e] at this; simp at this; omega
theorem sb_nums {l : List Int} (hl : ∀ v ∈ l, 48 ≤ v ∧ v ≤ 57) {i : Nat} (hi : i < l.length) : sb (strOfNums l) i = l[i] := by
  unfold sb
  rw [dif_pos (by rw [strOfNums_size]; exact hi)]
  have h := hl l[i] (List.getElem_mem hi)
  have e : (strOfNums l)[i]'(by rw [strOfNums_size]; exact hi) = UInt8.ofNat l[i].toNat := by
    show (strOfNums l).data[i]'_ = _
    simp [strOfNums]
  rw [e]
  simp
  omega
theorem numV_rev {V : Int} {K : Nat} {u : ByteArray} (hu : ∀ i, i < K → sb u i = 48 + dgt V (K - 1 - i)) (h0 : 0 ≤ V) (hV : V < 10 ^ K) : ∀ j, j ≤ K → numV u j = V / 10 ^ (K - j)
  | 0, _ => by rw [Nat.sub_zero, Int.ediv_eq_zero_of_lt h0 hV]; rfl
  | j + 1, h => by
    have ih := numV_rev hu h0 hV j (by omega)
    simp only [numV]
    rw [ih, hu j (by omega)]
    have e1 : K - j = (K - (j + 1)) + 1 := by omega
    have e2 : K - 1 - j = K - (j + 1) := by omega
    rw [e1, e2]
    unfold dgt
    rw [← div_div10]
    generalize V / 10 ^ (K - (j + 1)) = W
    omega
/-- the digits of a number -/
def dcD (V : Int) (L : Nat) : List UInt8 := (strOfNums (revL V (sizeL (dgt V) L))).data.toList
theorem dcD_facts {V : Int} {L : Nat} (h0 : 0 < V) (h : V < 10 ^ L) : gdD (dcD V L) ∧ (dV (dcD V L) : Int) = V ∧ (dcD V L).length ≤ L := by
  have hK := lt_sizeL (Int.le_of_lt h0) L h
  have hKp : 0 < sizeL (dgt V) L := by
    rcases Nat.eq_zero_or_pos (sizeL (dgt V) L) with e | e
    · rw [e] at hK; simp at hK; omega
    · exact e
  have hKL := sizeL_le (dgt V) L
  have htop := sizeL_top L hKp
  have hB : B (dcD V L) = strOfNums (revL V (sizeL (dgt V) L)) := B_of _
  have hd : ∀ v ∈ revL V (sizeL (dgt V) L), 48 ≤ v ∧ v ≤ 57 := by
    intro v hv
    simp [revL] at hv
    obtain ⟨i, _, rfl⟩ := hv
    have := dgt_bd V (sizeL (dgt V) L - 1 - i)
    omega
  have hrl : (revL V (sizeL (dgt V) L)).length = sizeL (dgt V) L := by simp [revL]
  have hsz : (dcD V L).length = sizeL (dgt V) L := by
    rw [← B_size, hB, strOfNums_size, hrl]
  have hby : ∀ i, i < sizeL (dgt V) L → by_ (dcD V L) i = 48 + dgt V (sizeL (dgt V) L - 1 - i) := fun i hi => by
    rw [← sb_by, hB, sb_nums hd (by rw [hrl]; exact hi)]; simp [revL]
  have hall : (dcD V L).all dg = true := (all_dg _).2 fun i hi => by
    rw [hsz] at hi
    rw [hby i hi]
    have := dgt_bd V (sizeL (dgt V) L - 1 - i)
    omega
  refine ⟨Or.inr ⟨?_, ?_⟩, ?_, by omega⟩
  · unfold isd
    rw [hall]
    have : dcD V L ≠ [] := fun e => by rw [e] at hsz; simp at hsz; omega
    simp [this]
  · rw [hby 0 hKp, Nat.sub_zero]
    intro e
    exact htop (by omega)
  · rw [(dV_lt hall).2, B_size, hsz]
    rw [numV_rev (K := sizeL (dgt V) L) (fun i hi => by rw [sb_by]; exact hby i hi) (Int.le_of_lt h0) hK _ (Nat.le_refl _)]
    simp
set_option maxHeartbeats 1000000 in
theorem rdec_zero (a : Option Addr) (n c : Nat) (x : Nat → Int) (w : World) (hn : n < 100000) (h : Num w a n c x) (hz : sizeL x n = 0) :
    Calls Tryz.prog 17 #[.slice a n c] w fun e w' => e = .returned (.string ⟨#[]⟩) ∧ Below w.heap.size w w' := by
  have ht := trim_any a n c x w (by omega) h
  rw [hz] at ht
  clear h
  go_enter Tryz.func17, Tryz.ntmps17
  go_wp2_with (go_at_call 49; refine ht.mono ?_; rintro e wA ⟨g0, cap0, rfl, hN0, hB0⟩; clear ht hN0)
  go_loopw [0, 3] (fun t0 t3 wr => t0 = .slice (some ⟨g0, 0, none⟩) 0 cap0 ∧ t3 = .slice none 0 0 ∧ Below w.heap.size w wr) (fun _ _ _ => 0)
  case atStart => exact ⟨rfl, rfl, hB0⟩
  case round =>
    obtain ⟨rfl, rfl, hB1⟩ := hrel
    go_wp2
    go_loopw [7] (fun t7 wr => t7 = .int .i64 0 ∧ Below w.heap.size w wr) (fun _ _ => 0)
    case atStart => exact ⟨rfl, hB1⟩
    case round =>
      obtain ⟨rfl, hB2⟩ := hrel
      go_wp2
      go_loopw [8, 50] (fun t8 t50 wr => t8 = .slice none 0 0 ∧ t50 = .int .i64 0 ∧ Below w.heap.size w wr) (fun _ _ _ => 0)
      case atStart => exact ⟨rfl, rfl, hB2⟩
      case round =>
        obtain ⟨rfl, rfl, hB3⟩ := hrel
        have hcv : (convert 80 9 (.slice none 0 0)).run Tryz.prog wr = .ok (.string ⟨#[]⟩) wr := by
          rw [run_convert_bytes_string wr 80 9 5 none 0 0 Tryz.underlying80 Tryz.underlying5 Tryz.underlying9]
          rfl
        go_wp2
        go_ret
        exact ⟨rfl, hB3⟩
theorem p660 {x : Nat → Int} {n : Nat} (hx : Words x) (hn : n ≤ 30) : val x n < 10 ^ 660 := by
  have h := val_bd hx n
  have h2 := p22 n
  have h3 : (10 : Int) ^ (22 * n) ≤ 10 ^ 660 := by
    obtain ⟨k, hk⟩ : ∃ k, 660 = 22 * n + k := ⟨660 - 22 * n, by omega⟩
    rw [hk, Int.pow_add]
    have h4 := p10_pos k
    have h5 := p10_pos (22 * n)
    have : (10 : Int) ^ (22 * n) * 1 ≤ 10 ^ (22 * n) * 10 ^ k := Int.mul_le_mul_of_nonneg_left (by omega) (by omega)
    omega
  omega
/-- the document's Decimal -/
theorem rdec8 {a : Option Addr} {n c : Nat} {x : Nat → Int} {w : World} (hn : n ≤ 30) (h : Num w a n c x) :
    ∃ D : List UInt8, gdD D ∧ (dV D : Int) = val x n ∧ D.length ≤ 660 ∧ ∀ W, Below w.heap.size w W → Calls Tryz.prog 17 #[.slice a n c] W fun e w' => e = .returned (.string (B D)) ∧ Below W.heap.size W w' := by
  have hx := h.2.2.1
  rcases Nat.eq_zero_or_pos (sizeL x n) with hz | hz
  · refine ⟨[], Or.inl rfl, ?_, by decide, fun W hW => rdec_zero a n c x W (by omega) (h.next hW) hz⟩
    have := val_bare (x := x) n
    rw [hz] at this
    rw [← this]; rfl
  · have hv0 : 0 < val x n := by
      rw [← val_bare n]
      exact val_pos hx _ hz (sizeL_sizeL x n)
    have h660 := p660 hx hn
    obtain ⟨d1, d2, d3⟩ := dcD_facts hv0 h660
    refine ⟨dcD (val x n) 660, d1, d2, d3, fun W hW => ?_⟩
    have hle := sizeL_le x n
    refine (rdec_any a n c x W (by omega) (h.next hW) (by omega) hz).mono fun e w' ⟨L, hL, he, hB⟩ => ⟨?_, hB⟩
    rw [he, decL_rev hv0 hL, decL_more (Int.le_of_lt hv0) hL h660, ← decL_rev hv0 h660]
    show _ = Ending.returned (.string (B (dcD (val x n) 660)))
    unfold dcD
    rw [B_of]
end Go.Proofs.YtckkibmehjlgaaaGreatDoor
