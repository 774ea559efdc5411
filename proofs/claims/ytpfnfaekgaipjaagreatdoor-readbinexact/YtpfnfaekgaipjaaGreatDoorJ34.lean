/-
  Texts that the proof leans on, joined: Oq, Xs, Rsm.
-/
import Derived.Test.YtpfnfaekgaipjaaGreatDoorJ32
import Derived.Test.YtpfnfaekgaipjaaGreatDoorJ16
import Derived.Test.YtpfnfaekgaipjaaGreatDoorJ14
import Derived.Test.YtpfnfaekgaipjaaGreatDoorJ31
import Derived.Test.YtpfnfaekgaipjaaGreatDoorJ25
import Derived.Test.YtpfnfaekgaipjaaGreatDoorJ2
import Derived.Test.YtpfnfaekgaipjaaGreatDoorJ6
import Derived.Test.YtpfnfaekgaipjaaGreatDoorJ4
set_option linter.unusedVariables false
set_option linter.unusedSectionVars false
set_option linter.unusedSimpArgs false
set_option maxRecDepth 20000
namespace Go.Proofs.YtpfnfaekgaipjaaGreatDoor
open Go.RowKit

abbrev iW (v : Value) : Value → World → Prop := fun x _ => x = v
section
variable {P : Program} {a : Act} {w : World} {K : Act → World → Prop} {Q : Exit → Act → World → Prop} {d p q : Nat} {ty : TypeId} {pos : String} {after : Array Edge} {gd : Option (Nat × Bool)}
theorem og_mv {v : Value} (h1 : slot a p = v) (hK : K (a.put (some d) v) w) : Oper.wp P { dst := some d, op := Op.move (Operand.tmp p), type := ty, pos := pos, after := after, guard := gd } a w K Q := by
  unfold slot at h1
  simp [go_sem, h1]
  exact hK
theorem og_as {v : Value} (h1 : slot a p = v) (hK : K (a.put (some d) v) w) : Oper.wp P { dst := some d, op := Op.assign (Operand.tmp p), type := ty, pos := pos, after := after, guard := gd } a w K Q := by
  unfold slot at h1
  simp [go_sem, h1]
  exact hK
theorem og_ld3 {g i : Nat} {v : Value} (h1 : slot a p = .pointer (some ⟨g, i, none⟩)) (h2 : w.cell? ⟨g, i, none⟩ = some v) (hK : K (a.put (some d) v) w) : Oper.wp Tryz.prog { dst := some d, op := Op.load 3 (Operand.tmp p), type := ty, pos := pos, after := after, guard := gd } a w K Q := by
  unfold slot at h1
  simp [go_sem, h1, h2]
  exact hK
theorem og_fad3 {g : Nat} (h1 : slot a p = .pointer (some ⟨g, 0, none⟩)) (hK : K (a.put (some d) (.pointer (some ⟨g, 3, none⟩))) w) : Oper.wp Tryz.prog { dst := some d, op := Op.fieldAddr 27 (Operand.tmp p) 3, type := ty, pos := pos, after := after, guard := gd } a w K Q := by
  unfold slot at h1
  simp [go_sem, h1]
  exact hK
theorem og_neg {x : Int} (hx : -1000000 ≤ x ∧ x ≤ 1000000) (h1 : slot a p = .int .i64 x) (hK : K (a.put (some d) (.int .i64 (-x))) w) : Oper.wp Tryz.prog { dst := some d, op := Op.unOp UnOp.neg 3 (Operand.tmp p), type := ty, pos := pos, after := after, guard := gd } a w K Q := by
  unfold slot at h1
  have e : IntKind.i64.wrap (-x) = -x := by rw [IntKind.wrap_i64]; omega
  simp [go_sem, h1, e]
  exact hK
theorem og_times {p0 p1 : Nat} {u0 u1 : Value} {ts : Array TypeId} (h0 : slot a p0 = u0) (h1 : slot a p1 = u1) (hc : Calls Tryz.prog 10 #[u0, u1] w fun e w' => ∃ v, e = .returned v ∧ K (a.put (some d) v) w') : Oper.wp Tryz.prog { dst := some d, op := Op.call { callee := Callee.value (Operand.func 10), args := #[Operand.tmp p0, Operand.tmp p1], argTypes := ts }, type := ty, pos := pos, after := after, guard := gd } a w K Q := by
  unfold slot at h0 h1
  simp [go_sem, h0, h1]
  refine hc.mono ?_
  rintro e w' ⟨v, rfl, hK⟩
  exact hK
theorem og_pow {p1 : Nat} {u0 u1 : Value} {ts : Array TypeId} (h1 : slot a p1 = u1) (hc : Calls Tryz.prog 11 #[u0, u1] w fun e w' => ∃ v, e = .returned v ∧ K (a.put (some d) v) w') : Oper.wp Tryz.prog { dst := some d, op := Op.call { callee := Callee.value (Operand.func 11), args := #[Operand.const u0, Operand.tmp p1], argTypes := ts }, type := ty, pos := pos, after := after, guard := gd } a w K Q := by
  unfold slot at h1
  simp [go_sem, h1]
  refine hc.mono ?_
  rintro e w' ⟨v, rfl, hK⟩
  exact hK
end
end Go.Proofs.YtpfnfaekgaipjaaGreatDoor

namespace Go.Proofs.YtpfnfaekgaipjaaGreatDoor
open Go.RowKit

theorem tex_len2 {c : Int} {s g : Bool} {d : List UInt8} {e : Int} (he : -9223372036854775808 ≤ e ∧ e ≤ 9223372036854775807) : (texT c s g d e).length ≤ d.length + 100 := by
  have hi := Lib.itoa_length_le e he.1 he.2
  have h1 : (bodT c g d e).length ≤ d.length + 50 := by
    unfold bodT
    split
    · simp
    · split
      · unfold nanT
        simp only [List.length_append, List.length_cons]
        split <;> split <;> simp <;> omega
      · unfold finT dgT exT
        simp only [List.length_append]
        split <;> split <;> simp <;> omega
  unfold texT
  rw [List.length_append]
  split <;> simp <;> omega
/-- the parts with this sign -/
def Prt.at (p : Prt) (s : Bool) : Prt := ⟨p.cls, s, p.sn, p.dig, p.ex⟩
/-! Make by value -/
def mkV (n d : Int) (p : Prt) : Nat := if p.cls = 1 then rdV n d p.sg (tN (dV p.dig) (pwE p.dig.length p.ex)) (tD (pwE p.dig.length p.ex)) (pwE p.dig.length p.ex) else if p.cls = 2 then pkV n ⟨2, p.sg, false, 0, 0⟩ else pkV n ⟨3, p.sg, p.sn, 0, plV (fN n) p.sn (dV p.dig)⟩
def mkF (n d : Int) (p : Prt) : Int := if p.cls = 1 then rdF n d p.sg (tN (dV p.dig) (pwE p.dig.length p.ex)) (tD (pwE p.dig.length p.ex)) (pwE p.dig.length p.ex) else 0
theorem make_v {n d : Int} {p : Prt} (hb : binN n) (hk : knB d) (hj : jnP p) (he : -9223372036854775808 ≤ p.ex ∧ p.ex ≤ 9223372036854775807) (W : World) (hT : Tab W) (hT10 : Tb10 W) :
    Calls Tryz.prog 16 #[.int .i64 n, .int .i64 d, p.v] W fun r w' => r = .returned (.tuple #[A4 (mkV n d p), .int .i64 (mkF n d p), .int .i64 0]) ∧ Below W.heap.size W w' := by
  have c28 := fun W (hT : Tab W) => rck_good n d W hT ⟨hb, hk⟩
  have hgd := gd_of_jn hj
  have hl4 := hj.1
  obtain ⟨hdD, hcls⟩ := id hgd
  have hall := gdD_all hdD
  obtain ⟨fl1, fl2, fl3, fl4, fl5⟩ := fld_bd hb
  have hf2 := fN_ge hb
  unfold mkV mkF
  rcases hcls with ⟨hc, hsn, hx, _⟩ | ⟨hc, hsn, hd0, hx0⟩ | ⟨hc, hx0, _⟩
  · rw [if_pos hc, if_pos hc]
    exact make_1 n d p.cls p.sg p.sn p.dig p.ex _ _ _ _ _ _ _ W hT c28 (fun W' hW' => join_y p W' (hT10.next hW') he hj) hc _ _ _ (fun W' hT' => finite8 n d 1 p.sg p.sn p.dig p.ex W' hT' hb hk hall hl4)
  · have hc1 : ¬ p.cls = 1 := by omega
    rw [if_neg hc1, if_neg hc1, if_pos hc]
    have hi : isD (fN n) (leastN n) (mostN n) ⟨2, p.sg, false, 0, 0⟩ := Or.inr (Or.inl ⟨rfl, rfl, rfl, rfl⟩)
    have hE : pkE n ⟨2, p.sg, false, 0, 0⟩ = 0 := by unfold pkE; rw [if_pos hb, if_pos hi]
    have c34 := fun W hT => pack_any n ⟨2, p.sg, false, 0, 0⟩ W hT (show 0 < 2 ^ 256 by decide)
    rw [show (Dat.v ⟨2, p.sg, false, 0, 0⟩) = _ from DV_zero 2 p.sg false 0, hE] at c34
    exact make_2 n d p.cls p.sg p.sn p.dig p.ex _ _ _ _ _ _ _ W hT c28 (fun W' hW' => join_y p W' (hT10.next hW') he hj) hc _ _ (by rw [hsn]; exact c34)
  · have hc1 : ¬ p.cls = 1 := by omega
    have hc2 : ¬ p.cls = 2 := by omega
    rw [if_neg hc1, if_neg hc1, if_neg hc2]
    have hi := pl_isD (l := leastN n) (m := mostN n) p.sg p.sn (dV p.dig) hf2
    have hE : pkE n ⟨3, p.sg, p.sn, 0, plV (fN n) p.sn (dV p.dig)⟩ = 0 := by unfold pkE; rw [if_pos hb, if_pos hi]
    have hlt := plV_lt (f := fN n) (A := dV p.dig) p.sn fl4
    have c34 := fun W hT => pack_any n ⟨3, p.sg, p.sn, 0, plV (fN n) p.sn (dV p.dig)⟩ W hT hlt
    rw [hE] at c34
    exact make_3 n d p.cls p.sg p.sn p.dig p.ex _ _ _ _ _ _ _ W hT c28 (fun W' hW' => join_y p W' (hT10.next hW') he hj) hc _ _ _ (fun W' => payload8 _ _ _ _ _ _ _ 3 p.sg p.sn p.dig p.ex W' fl4 hall hl4) c34
/-! Read by value -/
end Go.Proofs.YtpfnfaekgaipjaaGreatDoor

namespace Go.Proofs.YtpfnfaekgaipjaaGreatDoor
open Go.RowKit

set_option maxHeartbeats 400000 in
theorem ofb_any (c : Int) (w : World) (hc : 0 ≤ c ∧ c ≤ 18446744073709551615) :
    Calls Tryz.prog 40 #[.int .u64 c] w fun e w' => ∃ g k cap z, e = .returned (.slice (some ⟨g, 0, none⟩) k cap) ∧ k ≤ 1 ∧ Num w' (some ⟨g, 0, none⟩) k cap z ∧ val z k = c ∧ Below w.heap.size w w' := by
  have hN := num_one w c hc
  have hT := trim_any _ 1 1 (oneW c) _ (by omega) hN
  have hle := sizeL_le (oneW c) 1
  have HV : Hid (val (oneW c) (sizeL (oneW c) 1) = c) := by show _ = _; rw [val_bare, val_one _ 1 (by omega)]
  have HB := below1 w (.cells #[.int .u64 c] 22)
  generalize sizeL (oneW c) 1 = s at *
  clear hN
  go_enter Tryz.func40, Tryz.ntmps40
  go_wp2_with (go_at_call 19; refine hT.mono ?_; rintro e w1 ⟨g, cap, rfl, hN, hB⟩)
  go_ret
  exact ⟨g, s, cap, _, rfl, hle, hN, HV.out, HB.trans (hB.mono HB.size)⟩
/-- the quotient's words from k on -/
def quoKb (x : Nat → Int) (d : Int) (s k i : Nat) : Int := if k ≤ i ∧ i < s then quoW x d s i else 0
set_option maxHeartbeats 1000000 in
theorem smb_any (a : Option Addr) (s c : Nat) (x : Nat → Int) (d : Int) (w : World) (hs : s < 100000) (h : Num w a s c x) (hd : 0 < d ∧ d ≤ 18446744073709551615) :
    Calls Tryz.prog 22 #[.slice a s c, .int .u64 d] w fun e w' => ∃ g k cap z g' k' cap' z', e = .returned (.tuple #[.slice (some ⟨g, 0, none⟩) k cap, .slice (some ⟨g', 0, none⟩) k' cap']) ∧ k ≤ s ∧ k' ≤ 1 ∧ Num w' (some ⟨g, 0, none⟩) k cap z ∧ Num w' (some ⟨g', 0, none⟩) k' cap' z' ∧ val z k = val x s / d ∧ sizeL z k = k ∧ val z' k' = val x s % d ∧ Below w.heap.size w w' := by
  have hx := h.2.2.1
  have H := fun j hj w => limDiv_ok x d s hx hd j hj w
  have hd0 : (d == 0) = false := by simp; omega
  have hmk := fun w => make_any (s : Int) s rfl (by omega) w
  have hA := apart_of h
  have hBW := below1 w (.cells (arrOf (fun _ => 0) s) 22)
  have hnx := h.next hBW
  have hO := Own.new w (fun _ => 0) s
  have hqv := quo_val hx hd.1 s
  have HQW : Hid (Words (quoW x d s)) := quoW_words hx hd.1 s
  have hrb := remJ_bd x d s s hd.1
  have HB : Hid (Below w.heap.size w (w.alloc (.cells (arrOf (fun _ => 0) s) 22))) := hBW
  clear hBW h hx
  go_enter Tryz.func22, Tryz.ntmps22
  go_wp2
  generalize w.alloc (.cells (arrOf (fun _ => 0) s) 22) = wA at *
  go_loopw [7, 8, 19] (fun c i u19 wr => ∃ (k : Nat), k ≤ s ∧ i = .int .i64 ((k : Int) - 1) ∧ c = .int .u64 (remJ x d s (s - k)) ∧ Own w.heap.size s (quoKb x d s k) wr ∧ Upd w.heap.size wA wr) (fun _ i _ _ => (intOf i + 1).toNat)
  case atStart => exact ⟨s, Nat.le_refl _, by go_num, by rw [Nat.sub_self]; rfl, hO.congr fun i _ => by unfold quoKb; rw [if_neg (by omega)], Upd.refl _ _⟩
  case round =>
    clear hO
    obtain ⟨k, hk, rfl, rfl, hO, hU⟩ := hrel
    by_cases h0 : k = 0
    · subst h0
      have hN := hO.num (x := quoKb x d s 0) (fun i => by unfold quoKb; split; exact HQW.out i; decide) 0 s s (by omega) (Nat.le_refl _) (by unfold maxLen; omega)
      have hT := trim_any _ s s _ _ (by omega) hN
      have hle := sizeL_le (segW (quoKb x d s 0) 0 s) s
      have HV : Hid (val (segW (quoKb x d s 0) 0 s) (sizeL (segW (quoKb x d s 0) 0 s) s) = val x s / d) := by
        show _ = _
        rw [val_bare, val_congr (y := quoW x d s) s fun i hi => by rw [segW_lt _ _ _ i hi, Nat.zero_add]; unfold quoKb; rw [if_pos (by omega)], hqv.1]
      have HR : Hid (remJ x d s s = val x s % d) := hqv.2
      have HBr : Hid (Below w.heap.size w wr) := HB.out.trans (hU.below (Nat.le_refl _))
      have HST : Hid (sizeL (segW (quoKb x d s 0) 0 s) (sizeL (segW (quoKb x d s 0) 0 s) s) = sizeL (segW (quoKb x d s 0) 0 s) s) := sizeL_sizeL _ _
      generalize segW (quoKb x d s 0) 0 s = qz at *
      generalize sizeL qz s = k1 at *
      have hof := fun wr => ofb_any (remJ x d s s) wr (by omega)
      rw [Nat.sub_zero]
      generalize remJ x d s s = rm at *
      clear hN hO hU H hqv
      go_wp2_with (go_at_call 19; refine hT.mono ?_; rintro e w1 ⟨g, cap, rfl, hN1, hB1⟩; clear hT)
      go_wp2_with (go_at_call 40; refine (hof _).mono ?_; rintro e w2 ⟨g2, k2, p2, z2, rfl, hk2, hN2, hv2, hB2⟩; clear hof)
      go_ret2
      exact ⟨g, k1, cap, qz, g2, k2, p2, z2, rfl, hle, hk2, hN1.next hB2, hN2, HV.out, HST.out, by rw [hv2, HR.out], (HBr.out.trans (hB1.mono HBr.out.size)).trans (hB2.mono (Nat.le_trans HBr.out.size hB1.size))⟩
    · obtain ⟨j, rfl⟩ : ∃ j, k = j + 1 := ⟨k - 1, by omega⟩
      have hjm : (j : Int) < s := by omega
      have ej : ((j + 1 : Nat) : Int) - 1 = j := by omega
      have ej2 : s - (j + 1) = s - 1 - j := by omega
      rw [ej, ej2]
      obtain ⟨b, off, rfl, hbs, hc⟩ := (hU.num' hA hnx).cells (by omega)
      have hcx := hc j (by omega)
      have hcj : ∃ u, wr.cell? ⟨w.heap.size, j, none⟩ = some (.int .u64 u) := ⟨_, hO.cell j (by omega)⟩
      obtain ⟨u, hcj⟩ := hcj
      have hfj := hO.frozen j
      have HJ := H j (by omega)
      have HO : Hid (Own w.heap.size s (quoKb x d s j) (wr.setCell ⟨w.heap.size, j, none⟩ (.int .u64 (quoW x d s j)))) := (hO.set j (quoW x d s j)).congr fun i hi => by
        unfold quoKb
        by_cases e : i = j
        · subst e; rw [if_pos rfl, if_pos (by omega)]
        · rw [if_neg e]
          by_cases e2 : j + 1 ≤ i ∧ i < s
          · rw [if_pos e2, if_pos (by omega)]
          · rw [if_neg e2, if_neg (by omega)]
      have HU : Hid (Upd w.heap.size wA (wr.setCell ⟨w.heap.size, j, none⟩ (.int .u64 (quoW x d s j)))) := hU.set j _
      clear hO hU H ej ej2 hc hqv hA hnx
      go_wp2_with (go_at_call 39; refine (HJ _).mono ?_; rintro e w' ⟨rfl, m', rfl⟩)
      go_roundw
      case rel => exact ⟨j, by omega, by go_num, rfl, HO.out, HU.out.drewN m'⟩
      case measure => simp [intOf]
end Go.Proofs.YtpfnfaekgaipjaaGreatDoor
