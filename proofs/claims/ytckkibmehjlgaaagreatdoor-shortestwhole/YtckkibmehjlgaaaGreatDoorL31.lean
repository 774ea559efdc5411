/-
  Texts that the proof leans on, joined: Wf, Xd, Sn9, So9, Xe, Lai, Xg, Tc, Xf, Xr, Xs, Rsm, Rdc, Xn, Sp9, Sr9, Ss9, Sg8.
-/
import Derived.Test.YtckkibmehjlgaaaGreatDoorL30
import Derived.Test.YtckkibmehjlgaaaGreatDoorL17
import Derived.Test.YtckkibmehjlgaaaGreatDoorL24
import Derived.Test.YtckkibmehjlgaaaGreatDoorL10
import Derived.Lib.SmallJoins
import Derived.Test.YtckkibmehjlgaaaGreatDoorL25
import Derived.Test.YtckkibmehjlgaaaGreatDoorL1
import Derived.Test.YtckkibmehjlgaaaGreatDoorL19
import Derived.Test.YtckkibmehjlgaaaGreatDoorL29
set_option linter.unusedVariables false
set_option linter.unusedSectionVars false
set_option linter.unusedSimpArgs false
set_option maxRecDepth 20000
namespace Go.Proofs.YtckkibmehjlgaaaGreatDoor
open Go.RowKit

theorem DV_zero (c : Int) (s g : Bool) (x : Int) : DV c s g x 0 = .agg #[.int .i64 c, .bool s, .bool g, .int .i64 x, .int .u64 0, .int .u64 0, .int .u64 0, .int .u64 0] := by
  unfold DV; simp only [W4_zero]
attribute [local irreducible] W4 NT NV Nt
end Go.Proofs.YtckkibmehjlgaaaGreatDoor

namespace Go.Proofs.YtckkibmehjlgaaaGreatDoor
open Go.RowKit

section
variable (x : Int) (vn vd : Value) (A KK : Nat) (w : World) (hx : -12000 ≤ x ∧ x ≤ 12000)
include hx
end
attribute [local irreducible] W4 NT NV
end Go.Proofs.YtckkibmehjlgaaaGreatDoor

namespace Go.Proofs.YtckkibmehjlgaaaGreatDoor
open Go.RowKit

attribute [local irreducible] W4 Nz Nt NT NV
section
variable (v : Value) (x i0 i1 i2 i3 i5 l m i8 : Int) (nm : ByteArray) (dn : Bool) (f : Nat) (w : World) (hf : f ≤ 300)
include hf
end
section
variable {a : Act} {w : World} {K : Act → World → Prop} {Q : Exit → Act → World → Prop} {d p q : Nat} {ty : TypeId} {pos : String} {after : Array Edge} {gd : Option (Nat × Bool)}
end
section
variable {a : Act} {w : World} {K : Act → World → Prop} {Q : Exit → Act → World → Prop} {d p q p2 p3 p4 : Nat} {ty : TypeId} {pos : String} {after : Array Edge} {gd : Option (Nat × Bool)}
end
end Go.Proofs.YtckkibmehjlgaaaGreatDoor

namespace Go.Proofs.YtckkibmehjlgaaaGreatDoor
open Go.RowKit

attribute [local irreducible] W4 Nz Nt NT NV
section
variable (vn vd : Value) (e : Int) (A : Nat) (w : World) (he : -6000 ≤ e ∧ e ≤ 6000)
include he
end
end Go.Proofs.YtckkibmehjlgaaaGreatDoor

namespace Go.Proofs.YtckkibmehjlgaaaGreatDoor
open Go.RowKit
attribute [local irreducible] W4 NT NV
end Go.Proofs.YtckkibmehjlgaaaGreatDoor

namespace Go.Proofs.YtckkibmehjlgaaaGreatDoor
open Go.RowKit

section
variable {H : Type} {enc : TypeId × Value → H} {W : World} {base : Nat} {sp : Nat → Bool} {held : Bool}
theorem u59 : ∃ a b c d, Tryz.prog.underlying 136 = some (.struct #[a, b, c, d]) ∧ a.offset = 0 ∧ b.offset = 1 ∧ c.offset = 2 ∧ d.offset = 3 ∧ a.type = 9 ∧ b.type = 3 ∧ c.type = 3 ∧ d.type = 3 :=
  ⟨_, _, _, _, Tryz.underlying136, rfl, rfl, rfl, rfl, rfl, rfl, rfl, rfl⟩
theorem c9 : Tryz.prog.cellsOf 9 = 1 := by kernel_rfl
theorem c3 : Tryz.prog.cellsOf 3 = 1 := by kernel_rfl
theorem c59 : Tryz.prog.cellsOf 136 = 4 := by kernel_rfl
theorem c60 : Tryz.prog.cellsOf 137 = 48 := by kernel_rfl
theorem u60 : Tryz.prog.underlying 137 = some (.array 12 136) := by kernel_rfl
theorem row_cells {fuel : Nat} {cs : List Value} {nm : List UInt8} {a b c : Int} {p : DataW H × List MemPlace} (hp : p.1 = .agg [.lit (.string nm), .lit (.int .i64 a), .lit (.int .i64 b), .lit (.int .i64 c)])
    (h : DataW.trod enc Tryz.prog W base sp held fuel 136 cs = some p) : cs = [.string ⟨nm.toArray⟩, .int .i64 a, .int .i64 b, .int .i64 c] := by
  obtain ⟨f0, f1, f2, f3, hu, o0, o1, o2, o3, t0, t1, t2, t3⟩ := u59
  obtain ⟨y0, y1, y2, y3, n, rfl, hl, h0, h1, h2, h3⟩ := Joins.trod_struct4 hu h
  rw [o0, t0, c9] at h0
  rw [o1, t1, c3] at h1
  rw [o2, t2, c3] at h2
  rw [o3, t3, c3] at h3
  obtain ⟨s, hs, rfl, _⟩ := DataW.trod_string Tryz.underlying9 h0
  obtain ⟨z1, hz1, rfl, _⟩ := DataW.trod_int Tryz.underlying3 h1
  obtain ⟨z2, hz2, rfl, _⟩ := DataW.trod_int Tryz.underlying3 h2
  obtain ⟨z3, hz3, rfl, _⟩ := DataW.trod_int Tryz.underlying3 h3
  simp only [DataW.agg.injEq, List.cons.injEq, DataW.lit.injEq, Lit.string.injEq, Lit.int.injEq, true_and, and_true] at hp
  obtain ⟨rfl, rfl, rfl, rfl⟩ := hp
  rw [c59] at hl
  match cs, hl with
  | [v0, v1, v2, v3], _ =>
    simp at hs hz1 hz2 hz3
    subst hs hz1 hz2 hz3
    rfl
theorem row_at {cs : List Value} {i : Nat} {v0 v1 v2 v3 : Value} (h : (cs.drop (i * 4)).take 4 = [v0, v1, v2, v3]) : cs[i * 4]? = some v0 ∧ cs[i * 4 + 1]? = some v1 ∧ cs[i * 4 + 2]? = some v2 ∧ cs[i * 4 + 3]? = some v3 := by
  have g : ∀ k, k < 4 → cs[i * 4 + k]? = [v0, v1, v2, v3][k]? := fun k hk => by
    rw [← h, List.getElem?_take_of_lt hk, List.getElem?_drop]
  exact ⟨g 0 (by decide), g 1 (by decide), g 2 (by decide), g 3 (by decide)⟩
theorem tab_of_trod {fuel : Nat} {cs : List Value} {p : List MemPlace} (h : DataW.trod enc Tryz.prog W base sp held fuel 137 cs = some (Rows.laid_caliper_desc_rows, p)) :
    ∀ i k, i < 12 → k < 4 → cs[i * 4 + k]? = some (rowV i k) := by
  cases fuel with
  | zero => simp [DataW.trod] at h
  | succ fuel =>
    simp only [DataW.trod, u60, c59, c60] at h
    split at h
    · rename_i hl
      obtain ⟨xs, hm, hx⟩ := Option.map_eq_some_iff.1 h
      have hxs := congrArg Prod.fst hx
      simp only [Rows.laid_caliper_desc_rows, DataW.agg.injEq] at hxs
      intro i k hi hk
      obtain ⟨b, hb, hf⟩ := Lib.mapM_at hm i i (by simp [hi])
      have hd : (xs.map (·.1))[i]? = some b.1 := by simp [hb]
      rw [hxs] at hd
      have key : ∀ (nm : List UInt8) (x y z : Int), b.1 = .agg [.lit (.string nm), .lit (.int .i64 x), .lit (.int .i64 y), .lit (.int .i64 z)] → cs[i * 4]? = some (.string ⟨nm.toArray⟩) ∧ cs[i * 4 + 1]? = some (.int .i64 x) ∧ cs[i * 4 + 2]? = some (.int .i64 y) ∧ cs[i * 4 + 3]? = some (.int .i64 z) :=
        fun nm x y z e => row_at (row_cells e hf)
      have hk' : k = 0 ∨ k = 1 ∨ k = 2 ∨ k = 3 := by omega
      have hi' : i = 0 ∨ i = 1 ∨ i = 2 ∨ i = 3 ∨ i = 4 ∨ i = 5 ∨ i = 6 ∨ i = 7 ∨ i = 8 ∨ i = 9 ∨ i = 10 ∨ i = 11 := by omega
      rcases hi' with rfl | rfl | rfl | rfl | rfl | rfl | rfl | rfl | rfl | rfl | rfl | rfl
      all_goals
        obtain ⟨q0, q1, q2, q3⟩ := key _ _ _ _ (Option.some.inj hd).symm
        rcases hk' with rfl | rfl | rfl | rfl
        · exact q0
        · exact q1
        · exact q2
        · exact q3
    · cases h
end
theorem tab_of_laid {W : World} {rest : List (String × DataW Unit)} (h : laidMet Tryz.prog (("caliper/desc.rows", Rows.laid_caliper_desc_rows) :: rest) W) : Tab W := by
  obtain ⟨ps, ⟨g', t', cs, fuel, p, q, hg', ht', hvar, hd, _, _⟩, _⟩ := h
  have hg : Tryz.prog.globalNamed "caliper/desc.rows" = some 0 := by kernel_rfl
  have hty : (Tryz.prog.globals[0]?).map (·.type) = some 137 := by kernel_rfl
  obtain rfl := Option.some.inj (hg.symm.trans hg')
  obtain rfl := Option.some.inj (hty.symm.trans ht')
  have hc := tab_of_trod hd
  have hcell : ∀ i k, i < 12 → k < 4 → W.cell? ⟨0, i * 4 + k, none⟩ = some (rowV i k) := fun i k hi hk => by
    have := World.var?_cell hg hvar (i * 4 + k)
    rw [this, ← hc i k hi hk]
    simp
  refine ⟨?_, hcell⟩
  have h0 := hcell 0 0 (by decide) (by decide)
  by_cases hz : 0 < W.heap.size
  · exact hz
  · have : W.heap[0]? = none := Array.getElem?_eq_none (by omega)
    simp [World.cell?, this] at h0
end Go.Proofs.YtckkibmehjlgaaaGreatDoor

namespace Go.Proofs.YtckkibmehjlgaaaGreatDoor
open Go.RowKit

section
variable {a : Act} {w : World} {K : Act → World → Prop} {Q : Exit → Act → World → Prop} {d p q p2 p3 : Nat} {ty : TypeId} {pos : String} {after : Array Edge} {gd : Option (Nat × Bool)}
end
attribute [local irreducible] W4 NT NV
end Go.Proofs.YtckkibmehjlgaaaGreatDoor

namespace Go.Proofs.YtckkibmehjlgaaaGreatDoor
open Go.RowKit

attribute [local irreducible] W4 Nt
end Go.Proofs.YtckkibmehjlgaaaGreatDoor

namespace Go.Proofs.YtckkibmehjlgaaaGreatDoor
open Go.RowKit

theorem dV_nil : dV [] = 0 := rfl
theorem pl_isD {f : Nat} {l m : Int} (s g : Bool) (A : Nat) (hf : 2 ≤ f) : isD f l m ⟨3, s, g, 0, plV f g A⟩ := by
  refine Or.inr (Or.inr ⟨rfl, rfl, ?_, ?_⟩)
  · show plV f g A < 2 ^ (f - 1)
    have h : plA f A < 2 ^ (f - 1) := by
      unfold plA
      split
      · exact Nat.two_pow_pos _
      · rename_i h
        exact bl_le.1 (by omega)
    unfold plV
    split
    · exact Nat.one_lt_two_pow (by omega)
    · exact h
  · show plV f g A ≠ 0 ∨ g = false
    cases g
    · exact Or.inr rfl
    · left
      unfold plV
      split
      · decide
      · rename_i h
        intro h2
        exact h ⟨rfl, h2⟩
theorem fN_ge {n : Int} (hb : binN n) : 2 ≤ fN n := by
  rcases bin_cases hb with rfl | rfl | rfl | rfl | rfl | rfl <;> decide
end Go.Proofs.YtckkibmehjlgaaaGreatDoor

namespace Go.Proofs.YtckkibmehjlgaaaGreatDoor
open Go.RowKit

attribute [local irreducible] W4
section
variable (n d : Int) (l : List UInt8) (q : Prt) (nm : ByteArray) (wd : Int) (f e : Nat) (lo m : Int) (w : World)
set_option maxHeartbeats 2000000 in
theorem read_k (hT : Tab w) (V : Nat) (F E : Int) (c28 : ∀ W, Tab W → Calls Tryz.prog 43 #[.int .i64 n, .int .i64 d] W fun r w' => r = .returned (.tuple #[DI n nm wd f e lo m, .int .i64 0]) ∧ Below W.heap.size W w')
    (c29 : ∀ W, Calls Tryz.prog 44 #[.string (B l)] W fun r w' => r = .returned (.tuple #[PV q.cls q.sg q.sn q.dig q.ex, .int .i64 0]) ∧ Below W.heap.size W w')
    (c12 : ∀ W, Below w.heap.size w W → Calls Tryz.prog 45 #[.int .i64 n, .int .i64 d, PV q.cls q.sg q.sn q.dig q.ex] W fun r w' => r = .returned (.tuple #[A4 V, .int .i64 F, .int .i64 E]) ∧ Below W.heap.size W w') :
    Calls Tryz.prog 15 #[.int .i64 n, .int .i64 d, .string (B l)] w fun r w' => r = .returned (.tuple #[A4 V, .int .i64 F, .int .i64 E]) ∧ Below w.heap.size w w' := by
  have hsm := cell_set_map
  unfold PV at *
  go_enter Tryz.func15, Tryz.ntmps15
  go_wp2_with (first
    | (go_at_call 43; refine (c28 _ (hT.go bgo)).mono ?_; rintro r w1 ⟨rfl, hb1⟩; obtain ⟨hc1, hf1⟩ := bcell hb1; have hz1_0 : w.heap.size < w1.heap.size := lt_below hb1 ltg; have hl1_0 := Nat.le_of_lt hz1_0; have hA1 := bnext (w0 := w) bgo hb1; have hs1 := hA1.size; clear hb1)
    | (go_at_call 44; refine (c29 _).mono ?_; rintro r w2 ⟨rfl, hb2⟩; obtain ⟨hc2, hf2⟩ := bcell hb2; have hz2_0 : w.heap.size < w2.heap.size := lt_below hb2 ltg; have hl2_0 := Nat.le_of_lt hz2_0; have hz2_1 : w1.heap.size < w2.heap.size := lt_below hb2 ltg; have hl2_1 := Nat.le_of_lt hz2_1; have hA2 := bnext (w0 := w) bgo hb2; have hs2 := hA2.size; clear hb2)
    | (go_at_call 45; refine (c12 _ bgo).mono ?_; rintro r w3 ⟨rfl, hb3⟩; obtain ⟨hc3, hf3⟩ := bcell hb3; have hz3_0 : w.heap.size < w3.heap.size := lt_below hb3 ltg; have hl3_0 := Nat.le_of_lt hz3_0; have hz3_1 : w1.heap.size < w3.heap.size := lt_below hb3 ltg; have hl3_1 := Nat.le_of_lt hz3_1; have hz3_2 : w2.heap.size < w3.heap.size := lt_below hb3 ltg; have hl3_2 := Nat.le_of_lt hz3_2; have hA3 := bnext (w0 := w) bgo hb3; have hs3 := hA3.size; clear hb3))
  exact bodyPost_ret (v := .tuple #[A4 V, .int .i64 F, .int .i64 E]) (by simp only [results, Tryz.results15]; go_simp) rfl ⟨rfl, bgo⟩
variable (c22 : ∀ W, Calls Tryz.prog 41 #[.int .i64 n] W fun r w' => r = .returned (.bool true) ∧ W = w')
include c22

end
theorem cut_ex {l : List UInt8} {p : Prt} (h : cutP l = some p) : -9223372036854775808 ≤ p.ex ∧ p.ex ≤ 9223372036854775807 := by
  rcases (cut_good h).2 with ⟨_, _, h⟩ | h | h
  · omega
  · obtain ⟨_, _, _, h⟩ := h
    omega
  · obtain ⟨_, h⟩ := h
    omega
end Go.Proofs.YtckkibmehjlgaaaGreatDoor

namespace Go.Proofs.YtckkibmehjlgaaaGreatDoor
open Go.RowKit

theorem tex_len2 {c : Int} {s g : Bool} {d : List UInt8} {e : Int} (he : -9223372036854775808 ≤ e ∧ e ≤ 9223372036854775807) : (texT c s g d e).length ≤ d.length + 100 := by
  have hi := Lib.itoa_length_le e he.1 he.2
  have h1 : (bodT c g d e).length ≤ d.length + 50 := by
    unfold bodT
    split
    · simp
    · split
      · unfold nanT
        simp only [List.length_append, List.length_cons]
        split <;> split <;> simp <;> omega
      · unfold finT dgT exT
        simp only [List.length_append]
        split <;> split <;> simp <;> omega
  unfold texT
  rw [List.length_append]
  split <;> simp <;> omega
theorem cut_dl {l : List UInt8} {p : Prt} (h : cutP l = some p) : p.dig.length ≤ l.length := by
  unfold cutP at h
  split at h
  · cases h
  · rename_i hl
    have hs := sgR_le l
    unfold bodP at h
    split at h
    · cases h
      show (finD (sgR l)).length ≤ l.length
      unfold finD
      have h1 := bar_le (dgs (sgR l) ++ frac (sgR l))
      have h2 := congrArg List.length (dgs_rst (sgR l))
      have h3 : (frac (sgR l)).length ≤ (rst (sgR l)).length := by
        unfold frac; split
        · exact Nat.le_trans (dgs_le _) (trimPre_le _ _)
        · simp
      rw [List.length_append] at h1 h2
      omega
    · split at h
      · cases h
        exact Nat.zero_le _
      · split at h
        · cases h
          show (bar (paD (nanR (sml (sgR l))))).length ≤ l.length
          have h1 := bar_le (paD (nanR (sml (sgR l))))
          have h2 : (paD (nanR (sml (sgR l)))).length ≤ (nanR (sml (sgR l))).length := by
            unfold paD
            split
            · exact Nat.le_trans (dgs_le _) (trimPre_le _ _)
            · exact Nat.zero_le _
          have h3 : (nanR (sml (sgR l))).length ≤ (sml (sgR l)).length := by
            unfold nanR
            exact Nat.le_trans (trimPre_le _ _) (trimPre_le _ _)
          rw [sml_len] at h3
          omega
        · cases h
theorem cut_jn {l : List UInt8} {p : Prt} (h : cutP l = some p) (hl : l.length ≤ 3001) : jnP p := by
  have h1 := cut_good h
  have h2 := cut_dl h
  have h3 := tex_len2 (c := p.cls) (s := p.sg) (g := p.sn) (d := p.dig) (cut_ex h)
  refine jn_of_gd ⟨h1.1, ?_⟩
  rcases h1.2 with ⟨a, b, c⟩ | h | ⟨a, b⟩
  · exact Or.inl ⟨a, b, c, by omega⟩
  · exact Or.inr (Or.inl h)
  · exact Or.inr (Or.inr ⟨a, b, by omega⟩)
/-- the parts with this sign -/
def Prt.at (p : Prt) (s : Bool) : Prt := ⟨p.cls, s, p.sn, p.dig, p.ex⟩
/-! Make by value -/
def mkV (n d : Int) (p : Prt) : Nat := if p.cls = 1 then rdV n d p.sg (tN (dV p.dig) (pwE p.dig.length p.ex)) (tD (pwE p.dig.length p.ex)) (pwE p.dig.length p.ex) else if p.cls = 2 then pkV n ⟨2, p.sg, false, 0, 0⟩ else pkV n ⟨3, p.sg, p.sn, 0, plV (fN n) p.sn (dV p.dig)⟩
def mkF (n d : Int) (p : Prt) : Int := if p.cls = 1 then rdF n d p.sg (tN (dV p.dig) (pwE p.dig.length p.ex)) (tD (pwE p.dig.length p.ex)) (pwE p.dig.length p.ex) else 0
theorem make_v {n d : Int} {p : Prt} (hb : binN n) (hk : knB d) (hj : jnP p) (he : -9223372036854775808 ≤ p.ex ∧ p.ex ≤ 9223372036854775807) (W : World) (hT : Tab W) (hT10 : Tb10 W) :
    Calls Tryz.prog 45 #[.int .i64 n, .int .i64 d, p.v] W fun r w' => r = .returned (.tuple #[A4 (mkV n d p), .int .i64 (mkF n d p), .int .i64 0]) ∧ Below W.heap.size W w' := by
  have c28 := fun W (hT : Tab W) => rck_good n d W hT ⟨hb, hk⟩
  have hgd := gd_of_jn hj
  have hl4 := hj.1
  obtain ⟨hdD, hcls⟩ := id hgd
  have hall := gdD_all hdD
  obtain ⟨fl1, fl2, fl3, fl4, fl5⟩ := fld_bd hb
  have hf2 := fN_ge hb
  unfold mkV mkF
  rcases hcls with ⟨hc, hsn, hx, _⟩ | ⟨hc, hsn, hd0, hx0⟩ | ⟨hc, hx0, _⟩
  · rw [if_pos hc, if_pos hc]
    exact make_1 n d p.cls p.sg p.sn p.dig p.ex _ _ _ _ _ _ _ W hT c28 (fun W' hW' => join_y p W' (hT10.next hW') he hj) hc _ _ _ (fun W' hT' => finite8 n d 1 p.sg p.sn p.dig p.ex W' hT' hb hk hall hl4)
  · have hc1 : ¬ p.cls = 1 := by omega
    rw [if_neg hc1, if_neg hc1, if_pos hc]
    have hi : isD (fN n) (leastN n) (mostN n) ⟨2, p.sg, false, 0, 0⟩ := Or.inr (Or.inl ⟨rfl, rfl, rfl, rfl⟩)
    have hE : pkE n ⟨2, p.sg, false, 0, 0⟩ = 0 := by unfold pkE; rw [if_pos hb, if_pos hi]
    have c34 := fun W hT => pack_any n ⟨2, p.sg, false, 0, 0⟩ W hT (show 0 < 2 ^ 256 by decide)
    rw [show (Dat.v ⟨2, p.sg, false, 0, 0⟩) = _ from DV_zero 2 p.sg false 0, hE] at c34
    exact make_2 n d p.cls p.sg p.sn p.dig p.ex _ _ _ _ _ _ _ W hT c28 (fun W' hW' => join_y p W' (hT10.next hW') he hj) hc _ _ (by rw [hsn]; exact c34)
  · have hc1 : ¬ p.cls = 1 := by omega
    have hc2 : ¬ p.cls = 2 := by omega
    rw [if_neg hc1, if_neg hc1, if_neg hc2]
    have hi := pl_isD (l := leastN n) (m := mostN n) p.sg p.sn (dV p.dig) hf2
    have hE : pkE n ⟨3, p.sg, p.sn, 0, plV (fN n) p.sn (dV p.dig)⟩ = 0 := by unfold pkE; rw [if_pos hb, if_pos hi]
    have hlt := plV_lt (f := fN n) (A := dV p.dig) p.sn fl4
    have c34 := fun W hT => pack_any n ⟨3, p.sg, p.sn, 0, plV (fN n) p.sn (dV p.dig)⟩ W hT hlt
    rw [hE] at c34
    exact make_3 n d p.cls p.sg p.sn p.dig p.ex _ _ _ _ _ _ _ W hT c28 (fun W' hW' => join_y p W' (hT10.next hW') he hj) hc _ _ _ (fun W' => payload8 _ _ _ _ _ _ _ 3 p.sg p.sn p.dig p.ex W' fl4 hall hl4) c34
/-! Read by value -/
theorem read_v {n d : Int} {l : List UInt8} {p : Prt} (hb : binN n) (hk : knB d) (h : cutP l = some p) (hl : l.length ≤ 3001) (W : World) (hT : Tab W) (hT10 : Tb10 W) :
    Calls Tryz.prog 15 #[.int .i64 n, .int .i64 d, .string (B l)] W fun r w' => r = .returned (.tuple #[A4 (mkV n d p), .int .i64 (mkF n d p), .int .i64 0]) ∧ Below W.heap.size W w' := by
  have c29 := fun W => cut_any l W (by omega)
  rw [(cutE_some h).1, (cutE_some h).2] at c29
  exact read_k n d l p _ _ _ _ _ _ W hT _ _ _ (fun W hT => rck_good n d W hT ⟨hb, hk⟩) c29 (fun W' hW' => make_v hb hk (cut_jn h hl) (cut_ex h) W' (hT.go hW') (hT10.next hW'))
end Go.Proofs.YtckkibmehjlgaaaGreatDoor

namespace Go.Proofs.YtckkibmehjlgaaaGreatDoor
open Go.RowKit

end Go.Proofs.YtckkibmehjlgaaaGreatDoor

namespace Go.Proofs.YtckkibmehjlgaaaGreatDoor
open Go.RowKit

theorem lt_sizeL {V : Int} (h0 : 0 ≤ V) : ∀ L, V < 10 ^ L → V < 10 ^ (sizeL (dgt V) L)
  | 0, h => h
  | L + 1, h => by
    by_cases e : dgt V L = 0
    · have e1 : sizeL (dgt V) (L + 1) = sizeL (dgt V) L := by simp [sizeL, e]
      rw [e1]
      refine lt_sizeL h0 L ?_
      unfold dgt at e
      have hp := p10_pos L
      rw [Int.pow_succ] at h
      have h1 : V / 10 ^ L < 10 := Int.ediv_lt_of_lt_mul hp (by omega)
      have h2 : 0 ≤ V / 10 ^ L := Int.ediv_nonneg h0 (by omega)
      have h3 : V / 10 ^ L = 0 := by omega
      have := Int.lt_mul_ediv_self_add (x := V) (k := 10 ^ L) hp
      rw [h3] at this; omega
    · have e1 : sizeL (dgt V) (L + 1) = L + 1 := by simp [sizeL, e]
      rw [e1]; exact h
def revL (V : Int) (K : Nat) : List Int := (List.range K).map fun i => 48 + dgt V (K - 1 - i)
end Go.Proofs.YtckkibmehjlgaaaGreatDoor

namespace Go.Proofs.YtckkibmehjlgaaaGreatDoor
open Go.RowKit

theorem decL_rev {V : Int} {L : Nat} (h0 : 0 < V) (h : V < 10 ^ L) : revL V (sizeL (dgt V) L) = decL V L := by
  unfold decL revL
  rw [if_neg]
  intro e
  have := lt_sizeL (Int.le_of_lt h0) L h
  rw [e] at this; simp at this; omega
theorem sb_nums {l : List Int} (hl : ∀ v ∈ l, 48 ≤ v ∧ v ≤ 57) {i : Nat} (hi : i < l.length) : sb (strOfNums l) i = l[i] := by
  unfold sb
  rw [dif_pos (by rw [strOfNums_size]; exact hi)]
  have h := hl l[i] (List.getElem_mem hi)
  have e : (strOfNums l)[i]'(by rw [strOfNums_size]; exact hi) = UInt8.ofNat l[i].toNat := by
    show (strOfNums l).data[i]'_ = _
    simp [strOfNums]
  rw [e]
  simp
  omega
theorem numV_rev {V : Int} {K : Nat} {u : ByteArray} (hu : ∀ i, i < K → sb u i = 48 + dgt V (K - 1 - i)) (h0 : 0 ≤ V) (hV : V < 10 ^ K) : ∀ j, j ≤ K → numV u j = V / 10 ^ (K - j)
  | 0, _ => by rw [Nat.sub_zero, Int.ediv_eq_zero_of_lt h0 hV]; rfl
  | j + 1, h => by
    have ih := numV_rev hu h0 hV j (by omega)
    simp only [numV]
    rw [ih, hu j (by omega)]
    have e1 : K - j = (K - (j + 1)) + 1 := by omega
    have e2 : K - 1 - j = K - (j + 1) := by omega
    rw [e1, e2]
    unfold dgt
    rw [← div_div10]
    generalize V / 10 ^ (K - (j + 1)) = W
    omega
/-- the digits of a number -/
def dcD (V : Int) (L : Nat) : List UInt8 := (strOfNums (revL V (sizeL (dgt V) L))).data.toList
theorem dcD_facts {V : Int} {L : Nat} (h0 : 0 < V) (h : V < 10 ^ L) : gdD (dcD V L) ∧ (dV (dcD V L) : Int) = V ∧ (dcD V L).length ≤ L := by
  have hK := lt_sizeL (Int.le_of_lt h0) L h
  have hKp : 0 < sizeL (dgt V) L := by
    rcases Nat.eq_zero_or_pos (sizeL (dgt V) L) with e | e
    · rw [e] at hK; simp at hK; omega
    · exact e
  have hKL := sizeL_le (dgt V) L
  have htop := sizeL_top L hKp
  have hB : B (dcD V L) = strOfNums (revL V (sizeL (dgt V) L)) := B_of _
  have hd : ∀ v ∈ revL V (sizeL (dgt V) L), 48 ≤ v ∧ v ≤ 57 := by
    intro v hv
    simp [revL] at hv
    obtain ⟨i, _, rfl⟩ := hv
    have := dgt_bd V (sizeL (dgt V) L - 1 - i)
    omega
  have hrl : (revL V (sizeL (dgt V) L)).length = sizeL (dgt V) L := by simp [revL]
  have hsz : (dcD V L).length = sizeL (dgt V) L := by
    rw [← B_size, hB, strOfNums_size, hrl]
  have hby : ∀ i, i < sizeL (dgt V) L → by_ (dcD V L) i = 48 + dgt V (sizeL (dgt V) L - 1 - i) := fun i hi => by
    rw [← sb_by, hB, sb_nums hd (by rw [hrl]; exact hi)]; simp [revL]
  have hall : (dcD V L).all dg = true := (all_dg _).2 fun i hi => by
    rw [hsz] at hi
    rw [hby i hi]
    have := dgt_bd V (sizeL (dgt V) L - 1 - i)
    omega
  refine ⟨Or.inr ⟨?_, ?_⟩, ?_, by omega⟩
  · unfold isd
    rw [hall]
    have : dcD V L ≠ [] := fun e => by rw [e] at hsz; simp at hsz; omega
    simp [this]
  · rw [hby 0 hKp, Nat.sub_zero]
    intro e
    exact htop (by omega)
  · rw [(dV_lt hall).2, B_size, hsz]
    rw [numV_rev (K := sizeL (dgt V) L) (fun i hi => by rw [sb_by]; exact hby i hi) (Int.le_of_lt h0) hK _ (Nat.le_refl _)]
    simp
end Go.Proofs.YtckkibmehjlgaaaGreatDoor

namespace Go.Proofs.YtckkibmehjlgaaaGreatDoor
open Go.RowKit

theorem NT.head {K V : Nat} {v : Value} {w : World} (h : NT K V v w) (hV : V ≠ 0) : ∃ g k cap z0, v = .slice (some ⟨g, 0, none⟩) k cap ∧ 0 < k ∧ k ≤ K ∧ g < w.heap.size ∧ w.cell? ⟨g, 0, none⟩ = some (.int .u64 z0) ∧ 0 ≤ z0 ∧ z0 ≤ 18446744073709551615 ∧ z0 % 2 = ((V % 2 : Nat) : Int) := by
  have hz := h.zero
  obtain ⟨g, k, cap, z, rfl, hk, ⟨n1, n2, n3, n4, n5⟩, hv, hs⟩ := h
  obtain ⟨g', k', cap', e, _, hz'⟩ := hz
  cases e
  have hk0 : k ≠ 0 := fun e => hV (hz'.1 e)
  rcases n5 with ⟨n5, _⟩ | ⟨b, off, e, hb, hc⟩
  · cases n5
  · cases e
    have hc0 := hc 0 (by omega)
    have hw := n3 0
    have hp := val_odd (by omega : 0 < k) hv
    exact ⟨g, k, cap, z 0, rfl, by omega, hk, hb, hc0, hw.1, hw.2, by omega⟩
attribute [local irreducible] W4 Nz Nt NT NV
section
variable (n : Int) (Bp : Nat) (c : Int) (s g : Bool) (x : Int) (k : Nat) (w : World)
variable (c16 : ∀ W, Calls Tryz.prog 16 #[.int .i64 n, A4 Bp] W fun r w' => r = .returned (.tuple #[DV c s g x k, .int .i64 0]) ∧ Below W.heap.size W w')
include c16
variable (hc : c = 1)
include hc
end
end Go.Proofs.YtckkibmehjlgaaaGreatDoor

namespace Go.Proofs.YtckkibmehjlgaaaGreatDoor
open Go.RowKit

section
variable {a : Act} {w : World} {K : Act → World → Prop} {Q : Exit → Act → World → Prop} {d p q : Nat} {ty : TypeId} {pos : String} {after : Array Edge} {gd : Option (Nat × Bool)}
end
end Go.Proofs.YtckkibmehjlgaaaGreatDoor

namespace Go.Proofs.YtckkibmehjlgaaaGreatDoor
open Go.RowKit

theorem dV_snoc {l : List UInt8} {c : UInt8} (hl : l.all dg = true) (hc : dg c = true) : dV (l ++ [c]) = 10 * dV l + (c.toNat - 48) := by
  have hall : (l ++ [c]).all dg = true := by rw [List.all_append, hl]; simp [hc]
  have h1 := (dV_lt hall).2
  have h2 := (dV_lt hl).2
  have hcd : 48 ≤ c.toNat ∧ c.toNat ≤ 57 := of_decide_eq_true hc
  have hA := numV_app (s := B (l ++ [c])) (u := B [c]) l.length 1 (fun i hi => by
    rw [sb_by, sb_by, by_app_at])
  have hC := numV_app (s := B (l ++ [c])) (u := B l) 0 l.length (fun i hi => by
    rw [sb_by, sb_by, Nat.zero_add]
    unfold by_
    have hi2 : i < (l ++ [c]).length := by rw [List.length_append]; omega
    rw [dif_pos hi, dif_pos hi2, List.getElem_append_left hi])
  have e0 : numV (B (l ++ [c])) 0 = 0 := rfl
  have e1 : numV (B [c]) 1 = (c.toNat : Int) - 48 := by
    have : numV (B [c]) 1 = numV (B [c]) 0 * 10 + (sb (B [c]) 0 - 48) := rfl
    rw [this, sb_by, by_zero]
    have : numV (B [c]) 0 = 0 := rfl
    omega
  rw [Nat.zero_add, e0, Int.zero_mul, Int.zero_add] at hC
  rw [B_size] at h1 h2
  rw [show (l ++ [c]).length = l.length + 1 by simp, hA, hC, e1, ← h2] at h1
  omega
theorem dg_ofNat {d : Nat} (h : d ≤ 9) : dg (UInt8.ofNat (48 + d)) = true := by
  unfold dg
  refine decide_eq_true ?_
  have : (UInt8.ofNat (48 + d)).toNat = 48 + d := by simp; omega
  omega
theorem ofNat_dg {d : Nat} (h : d ≤ 9) : (UInt8.ofNat (48 + d)).toNat = 48 + d := by simp; omega
theorem ds_all {R Z : Nat} (hZ : 0 < Z) (hR : R < 10 * Z) : ∀ k, (dsN R Z k).all dg = true
  | 0 => rfl
  | k + 1 => by
    simp only [dsN]
    have h := dg_ofNat (dgK_le hZ hR k)
    rw [List.all_append, ds_all hZ hR k, Bool.true_and, List.all_cons, h]
    rfl
theorem ds_first {R Z : Nat} (hZ : 0 < Z) (hR : R < 10 * Z) (hZR : Z ≤ R) : ∀ k, ∃ r, dsN R Z (k + 1) = UInt8.ofNat (48 + dgK R Z 0) :: r
  | 0 => ⟨[], rfl⟩
  | k + 1 => by
    obtain ⟨r, hr⟩ := ds_first hZ hR hZR k
    exact ⟨r ++ [UInt8.ofNat (48 + dgK R Z (k + 1))], by rw [show dsN R Z (k + 1 + 1) = dsN R Z (k + 1) ++ [UInt8.ofNat (48 + dgK R Z (k + 1))] from rfl, hr]; rfl⟩
theorem dg0_pos {R Z : Nat} (hZ : 0 < Z) (hZR : Z ≤ R) : 1 ≤ dgK R Z 0 := by
  show 1 ≤ R / Z
  exact (Nat.le_div_iff_mul_le hZ).2 (by omega)
theorem ds_one {R Z : Nat} (hZ : 0 < Z) (hR : R < 10 * Z) : dV (dsN R Z 1) = dgK R Z 0 := by
  have h := dgK_le hZ hR 0
  have := dV_snoc (l := []) (c := UInt8.ofNat (48 + dgK R Z 0)) (by decide) (dg_ofNat h)
  rw [show dsN R Z 1 = [] ++ [UInt8.ofNat (48 + dgK R Z 0)] from rfl, this, dV_nil, ofNat_dg h]; omega
end Go.Proofs.YtckkibmehjlgaaaGreatDoor

namespace Go.Proofs.YtckkibmehjlgaaaGreatDoor

theorem near_link {c : Bool} {N D P m Z k l : Nat} (hP : 0 < P) (hD : 0 < D) (h : 4 * N * P = m * Z * D) :
    (m * Z ≤ 4 * k * P → N ≤ k * D ∧ wiN c (4 * (k * D) - 4 * N) (l * D) = wiN c (4 * k * P - m * Z) (l * P)) ∧
    (4 * k * P ≤ m * Z → k * D ≤ N ∧ wiN c (4 * N - 4 * (k * D)) (2 * D) = wiN c (m * Z - 4 * k * P) (2 * P)) := by
  have e1 : 4 * k * P * D = 4 * (k * D) * P := by
    rw [Nat.mul_assoc 4 k P, Nat.mul_assoc 4 (k * P) D, Nat.mul_right_comm k P D, Nat.mul_assoc 4 (k * D) P]
  have e2 : ∀ l : Nat, l * D * P = l * P * D := fun l => Nat.mul_right_comm _ _ _
  refine ⟨fun hm => ⟨?_, ?_⟩, fun hm => ⟨?_, ?_⟩⟩
  · have h1 := Nat.mul_le_mul_right D hm
    rw [← h, e1] at h1
    have := Nat.le_of_mul_le_mul_right h1 hP
    omega
  · exact wiN_cross hD hP (by rw [Nat.sub_mul, Nat.sub_mul, e1, h]) (e2 l)
  · have h1 := Nat.mul_le_mul_right D hm
    rw [← h, e1] at h1
    have := Nat.le_of_mul_le_mul_right h1 hP
    omega
  · exact wiN_cross hD hP (by rw [Nat.sub_mul, Nat.sub_mul, e1, h]) (e2 2)
/-- a decimal number in the units of the number's last place -/
theorem ten_link {A m C j : Nat} {E e x : Int} (hm : m = A * 10 ^ C) (he : e = E - j + C) :
    4 * (A * 10 ^ e.toNat * 2 ^ (-x).toNat) * (10 ^ j * oE x E) = m * zE x E * (10 ^ (-e).toNat * 2 ^ x.toNat) := by
  unfold oE zE
  have h1 : 10 ^ e.toNat * 10 ^ j * 10 ^ (-E).toNat = 10 ^ C * 10 ^ E.toNat * 10 ^ (-e).toNat := by
    rw [← Nat.pow_add, ← Nat.pow_add, ← Nat.pow_add, ← Nat.pow_add]
    congr 1
    omega
  rw [hm]
  generalize 10 ^ e.toNat = a at *
  generalize 10 ^ j = b at *
  generalize 10 ^ (-E).toNat = c at *
  generalize 10 ^ C = d at *
  generalize 10 ^ E.toNat = g at *
  generalize 10 ^ (-e).toNat = i at *
  generalize 2 ^ (-x).toNat = u
  generalize 2 ^ x.toNat = v
  have l : 4 * (A * a * u) * (b * (v * c)) = 4 * A * u * v * (a * b * c) := by
    simp only [Nat.mul_assoc, Nat.mul_comm, Nat.mul_left_comm]
  have r : A * d * (4 * u * g) * (i * v) = 4 * A * u * v * (d * g * i) := by
    simp only [Nat.mul_assoc, Nat.mul_comm, Nat.mul_left_comm]
  rw [l, r, h1]
/-- what the digits tell and what is left -/
theorem ds_rest {R Z : Nat} (hZ : 0 < Z) (hR : R < 10 * Z) : ∀ k, dV (dsN R Z (k + 1)) * Z + rsN R Z k % Z = 10 ^ k * R
  | 0 => by
    rw [ds_one hZ hR, Nat.pow_zero, Nat.one_mul]
    show R / Z * Z + R % Z = R
    rw [Nat.mul_comm]; exact Nat.div_add_mod _ _
  | k + 1 => by
    have ih := ds_rest hZ hR k
    have h9 := dgK_le hZ hR (k + 1)
    rw [show dsN R Z (k + 1 + 1) = dsN R Z (k + 1) ++ [UInt8.ofNat (48 + dgK R Z (k + 1))] from rfl, dV_snoc (ds_all hZ hR (k + 1)) (dg_ofNat h9), ofNat_dg h9, Nat.add_sub_cancel_left, Nat.add_mul]
    have h1 := rsN_split R Z (k + 1)
    have h2 : rsN R Z (k + 1) = 10 * (rsN R Z k % Z) := rfl
    have h3 : dgK R Z (k + 1) * Z + rsN R Z (k + 1) % Z = 10 * (rsN R Z k % Z) := by rw [← h2, Nat.mul_comm]; exact h1
    rw [Nat.add_assoc, h3, Nat.mul_assoc, ← Nat.mul_add, ih, Nat.pow_succ, Nat.mul_comm _ 10, Nat.mul_assoc]
theorem one_list : dV [49] = 1 := by
  have h1 := dV_snoc (l := []) (c := 49) (by decide) (by decide)
  rw [show ([49] : List UInt8) = [] ++ [49] from rfl, h1, dV_nil]; decide
/-- the text's digits: what was cut off, or the next number -/
theorem shd_val {c : Bool} {R d u Z K : Nat} (hZ : 0 < Z) (hR : R < 10 * Z) (hm : ∀ k, k < K → stK c R d u Z k = false) :
    dV (dsN R Z (K + 1)) + (if upK c R d u Z K then 1 else 0) = dV (shT c R d u Z K) * 10 ^ shC c R d u Z K := by
  have h9 := dgK_le hZ hR K
  unfold shT shC
  by_cases h10 : laK c R d u Z K = 10
  · rw [if_pos h10, if_pos h10, one_list]
    have hK : K = 0 := by
      rcases Nat.eq_zero_or_pos K with h | h
      · exact h
      · have := la_lt (c := c) (d := d) (u := u) hZ h hR hm
        omega
    subst hK
    rw [ds_one hZ hR]
    unfold laK at h10
    split at h10
    · rename_i hu
      rw [if_pos hu]; omega
    · omega
  · rw [if_neg h10, if_neg h10, Nat.pow_zero, Nat.mul_one]
    have hla := laK_le (c := c) (d := d) (u := u) hZ hR K
    have hl9 : laK c R d u Z K ≤ 9 := by omega
    rw [dV_snoc (ds_all hZ hR K) (dg_ofNat hl9), ofNat_dg hl9]
    rw [show dsN R Z (K + 1) = dsN R Z K ++ [UInt8.ofNat (48 + dgK R Z K)] from rfl, dV_snoc (ds_all hZ hR K) (dg_ofNat h9), ofNat_dg h9]
    unfold laK
    split <;> omega
/-- the shortest digits are rounded to the number -/
theorem sd_back {n : Int} {s : Bool} {x : Int} {k : Nat} {E : Int} {K : Nat} (hbn : binN n) (h : isD (fN n) (leastN n) (mostN n) ⟨1, s, false, x, k⟩) (hk : k ≠ 0) (hS : Shd n x k E K) (e : Int) (he : e = E - K + (sdC n x k E K : Nat)) :
    rdV n 0 s (tN (dV (sdT n x k E K)) e) (tD e) e = pkV n ⟨1, s, false, x, k⟩ ∧ (rdF n 0 s (tN (dV (sdT n x k E K)) e) (tD e) e = 0 ∨ rdF n 0 s (tN (dV (sdT n x k E K)) e) (tD e) e = 8 ∨ rdF n 0 s (tN (dV (sdT n x k E K)) e) (tD e) e = 12) := by
  have hZ := zE_pos x E
  have hO := oE_pos x E
  have hR : 4 * k * oE x E < 10 * zE x E := by
    have := hS.t1
    rw [tn_next] at this
    omega
  have hv := shd_val (c := evK k) (d := lwN n x k * oE x E) (u := 2 * oE x E) hZ hR hS.mn
  have hr := ds_rest hZ hR K
  have hst := hS.st
  obtain ⟨t1, t2⟩ := ten_shift n 0 s (dV (sdT n x k E K)) e
  rw [← t1, ← t2]
  have hD0 : 10 ^ (-e).toNat ≠ 0 := Nat.pos_iff_ne_zero.1 (Nat.pow_pos (by decide))
  obtain ⟨u1, u2⟩ := rd_shift n 0 s (dV (sdT n x k E K) * 10 ^ e.toNat) hD0 (-x).toNat x.toNat x
  rw [show x + (((-x).toNat : Int) - (x.toNat : Int)) = 0 by omega] at u1 u2
  rw [← u1, ← u2]
  have hD : 0 < 10 ^ (-e).toNat * 2 ^ x.toNat := Nat.mul_pos (Nat.pow_pos (by decide)) (Nat.two_pow_pos _)
  have hP : 0 < 10 ^ K * oE x E := Nat.mul_pos (Nat.pow_pos (by decide)) hO
  have hl := ten_link (A := dV (sdT n x k E K)) (C := sdC n x k E K) (j := K) (E := E) (e := e) (x := x) rfl he
  have hv' : dV (sdT n x k E K) * 10 ^ sdC n x k E K = dV (dsN (4 * k * oE x E) (zE x E) (K + 1)) + (if upK (evK k) (4 * k * oE x E) (lwN n x k * oE x E) (2 * oE x E) (zE x E) K then 1 else 0) := hv.symm
  rw [hv'] at hl
  generalize dV (sdT n x k E K) * 10 ^ e.toNat * 2 ^ (-x).toNat = N at *
  generalize 10 ^ (-e).toNat * 2 ^ x.toNat = D at *
  have eR : 10 ^ K * (4 * k * oE x E) = 4 * k * (10 ^ K * oE x E) := Nat.mul_left_comm _ _ _
  have eO : ∀ l, 10 ^ K * (l * oE x E) = l * (10 ^ K * oE x E) := fun l => Nat.mul_left_comm _ _ _
  rw [eR] at hr
  have hlt : rsN (4 * k * oE x E) (zE x E) K % zE x E < zE x E := Nat.mod_lt _ hZ
  refine rd_near hbn h hk (by omega) ?_
  cases hu : upK (evK k) (4 * k * oE x E) (lwN n x k * oE x E) (2 * oE x E) (zE x E) K
  · have hun := nup_un hst hu
    unfold unK at hun
    rw [eO] at hun
    rw [hu, if_neg (by decide), Nat.add_zero] at hl
    have key := (near_link (c := evK k) (k := k) (l := lwN n x k) hP hD hl).1 (by omega)
    refine Or.inr ⟨key.1, ?_⟩
    rw [key.2, ← hr, Nat.add_sub_cancel_left]
    exact hun
  · have hov := up_ov hu
    unfold ovK at hov
    rw [eO] at hov
    rw [hu, if_pos rfl] at hl
    have hs : (dV (dsN (4 * k * oE x E) (zE x E) (K + 1)) + 1) * zE x E = dV (dsN (4 * k * oE x E) (zE x E) (K + 1)) * zE x E + zE x E := Nat.succ_mul _ _
    have key := (near_link (c := evK k) (k := k) (l := 2) hP hD hl).2 (by omega)
    refine Or.inl ⟨key.1, ?_⟩
    rw [key.2, hs, ← hr, Nat.add_sub_add_left]
    exact hov
end Go.Proofs.YtckkibmehjlgaaaGreatDoor
