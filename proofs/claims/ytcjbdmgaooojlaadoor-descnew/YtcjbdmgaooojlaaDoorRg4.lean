/-
  What the law DescPowers does, up to its last statement.
-/
import Derived.Test.YtcjbdmgaooojlaaDoorPwp
import Derived.Test.YtcjbdmgaooojlaaDoorOrd
import Derived.Test.YtcjbdmgaooojlaaDoorFit
set_option linter.unusedVariables false
set_option linter.unusedSimpArgs false
set_option maxRecDepth 20000
namespace Go.Proofs.YtcjbdmgaooojlaaDoor
open Go.RowKit

theorem Ans.keep {g : Nat} {n : Int} {w w' : World} {b : Nat} (h : Ans g n w w' b) : Rdy g n w' ∧ w.grownBy w' (some g) := by
  obtain ⟨w2, h1, h2, _, h3, _⟩ := h
  exact ⟨h1.next h3, keep_trans h2 (keep_of_below h3)⟩
theorem power_all (g : Nat) (n m : Int) (w : World) (hn : okN n) (h : Pst g n w) :
    Calls Tryd.prog 19 #[.pointer (some ⟨g, 0, none⟩), .int .i64 m] w fun e w' => ∃ o k c z, e = .returned (.tuple #[.slice o k c, .int .i64 (powE (pbase n) m)]) ∧ k ≤ 2001 ∧ Num w' o k c z ∧ val z k = powV (pbase n) m ∧ Rdy g n w' ∧ w.grownBy w' (some g) := by
  have hp := pbase_or n
  by_cases hm : m < 0 ∨ 12000 < m
  · refine (power_err g n m w hn h hm).mono ?_
    rintro e w' ⟨rfl, hR, hK, _⟩
    refine ⟨none, 0, 0, _, rfl, Nat.zero_le _, num_none w', ?_, hR, hK⟩
    unfold powV
    by_cases h1 : m < 0
    · rw [if_pos (Or.inr h1)]; rfl
    · rw [if_neg (by omega), if_pos (by omega)]; rfl
  · obtain ⟨q, rfl⟩ := Int.eq_ofNat_of_zero_le (show 0 ≤ m by omega)
    refine (power_ok g n q w hn h (by omega)).mono ?_
    rintro e w' ⟨b, k, c, z, rfl, hk, hN, hv, hs, hA⟩
    have hE : powE (pbase n) (q : Int) = 0 := by unfold powE; rw [if_neg (by omega), if_neg (by omega)]
    have hV : powV (pbase n) (q : Int) = pbase n ^ q := by unfold powV; rw [if_neg (by omega), if_neg (by omega), Int.toNat_natCast]
    exact ⟨_, k, c, z, by rw [hE], by omega, hN, by rw [hv, hV], hA.keep⟩
set_option maxHeartbeats 400000 in
theorem rpow4_any (b n : Int) (w : World) (hb : 0 ≤ b ∧ b ≤ 10) (hn : 0 ≤ n ∧ n ≤ 12000) :
    Calls Tryd.prog 24 #[.int .i64 b, .int .i64 n] w fun e w' => ∃ g k cap z, e = .returned (.slice (some ⟨g, 0, none⟩) k cap) ∧ k ≤ 50000 ∧ Num w' (some ⟨g, 0, none⟩) k cap z ∧ val z k = b ^ n.toNat ∧ Below w.heap.size w w' := by
  obtain ⟨m, rfl⟩ := Int.eq_ofNat_of_zero_le hn.1
  have hp := rpow_any b m w (by omega) (by omega)
  go_enter Tryd.func24, Tryd.ntmps24
  go_wp2_with (go_at_call 35; refine hp.mono ?_; rintro e w' ⟨g, k, cap, z, rfl, hk, hN, hv, hB⟩)
  go_ret
  exact ⟨g, k, cap, z, rfl, hk, hN, by rw [hv, Int.toNat_natCast], hB⟩
theorem num_keepO {g : Nat} {w w' : World} {o : Option Addr} {n c : Nat} {x : Nat → Int} (h : Num w o n c x) (hk : w.grownBy w' (some g)) (hne : ∀ q, o = some q → q.block ≠ g) : Num w' o n c x := by
  rcases o with _ | ⟨q, off, sp⟩
  · obtain ⟨h1, h2, h3, h4, h5⟩ := h
    exact ⟨h1, h2, h3, h4, by
      rcases h5 with h5 | ⟨b', o', e, hb, hc⟩
      · exact Or.inl h5
      · cases e⟩
  · have h' := h
    obtain ⟨_, _, _, _, h5⟩ := h
    rcases h5 with ⟨h5, _⟩ | ⟨b', o', e, hb, hc⟩
    · cases h5
    · cases e
      exact num_row h' hk (by intro e; cases e; exact hne _ rfl rfl)

set_option maxHeartbeats 2000000 in
theorem descPowers_bad (N n : Int) (w : World) (hT : Tab w) (hN : ¬ okN N) :
    Calls Tryd.prog 6 #[.int .i64 N, .int .i64 n] w fun e w' => e = .returned (.bool true) ∧ Below w.heap.size w w' := by
  have hE : infoE N = 1 := if_neg hN
  have key : (1000 < n ∧ n ≤ 12000) ∨ (1000 < n ∧ 12000 < n) ∨ n ≤ 1000 := by omega
  have c18 := fun w hT => newp_none N w hT hN
  have c11 := fun w => rofv_any N w
  rw [hE] at c11
  rcases key with ⟨k1, k2⟩ | ⟨k1, k2⟩ | k1
  all_goals
    go_enter Tryd.func6, Tryd.ntmps6
    go_wp2_with (first
      | (go_at_call 9; refine (awake_any _ hT).mono ?_; rintro e wa ⟨rfl, hA⟩; have hTa := hT.go hA)
      | (go_at_call 18; refine (c18 _ hTa).mono ?_; rintro e wb ⟨rfl, hb⟩; replace hA := hA.trans (hb.mono hA.size))
      | (go_at_call 11; refine (c11 _).mono ?_; rintro e wc ⟨rfl, hc⟩; replace hA := hA.trans (hc.mono hA.size)))
    go_ret
    exact ⟨rfl, hA.alloc hA.size _⟩

theorem Ans.rdy {g : Nat} {n : Int} {w w' : World} {b : Nat} (h : Ans g n w w' b) (hr : Rdy g n w) : Rdy g n w' ∧ Below w.heap.size w w' := by
  obtain ⟨w2, h1, h2, h0, h3, _⟩ := h
  have e := h0 hr
  subst e
  exact ⟨h1.next h3, h3⟩
theorem undrew {w w' : World} (h : Below w.drew.heap.size w.drew w') : Below w.heap.size w w' := ⟨h.os, h.tape, h.output, h.size, h.block⟩
theorem below_drew0 (w : World) : Below w.heap.size w w.drew := (Below.refl _ _).drew
theorem Rdy.drew {g : Nat} {n : Int} {w : World} (h : Rdy g n w) : Rdy g n w.drew := h.next (below_drew0 w)
/-- this value; a number of at most K words -/
def isV (u : Value) : Value → World → Prop := fun v _ => v = u
theorem isV.stays (u : Value) : Stays (isV u) := fun v w w' h _ => h
def Nv (K : Nat) (V : Int) : Value → World → Prop := fun v w => ∃ b k c z, v = .slice (some ⟨b, 0, none⟩) k c ∧ k ≤ K ∧ Num w (some ⟨b, 0, none⟩) k c z ∧ val z k = V
theorem Nv.stays (K : Nat) (V : Int) : Stays (Nv K V) := by
  rintro v w w' ⟨b, k, c, z, h1, h2, h3, h4⟩ hb
  exact ⟨b, k, c, z, h1, h2, h3.next hb, h4⟩
section
variable {a : Act} {w : World} {K : Act → World → Prop} {Q : Exit → Act → World → Prop} {d p q : Nat} {ty : TypeId} {pos : String} {after : Array Edge} {gd : Option (Nat × Bool)}
theorem op_mv {v : Value} (h1 : slot a p = v) (hK : K (a.put (some d) v) w) : Oper.wp Tryd.prog { dst := some d, op := Op.move (Operand.tmp p), type := ty, pos := pos, after := after, guard := gd } a w K Q := by
  unfold slot at h1
  simp [go_sem, h1]
  exact hK
theorem op_as {v : Value} (h1 : slot a p = v) (hK : K (a.put (some d) v) w) : Oper.wp Tryd.prog { dst := some d, op := Op.assign (Operand.tmp p), type := ty, pos := pos, after := after, guard := gd } a w K Q := by
  unfold slot at h1
  simp [go_sem, h1]
  exact hK
theorem op_eql {x : Int} (h1 : slot a p = .int .i64 x) (h2 : slot a q = .int .i64 x) (hK : K (a.put (some d) (.bool true)) w) : Oper.wp Tryd.prog { dst := some d, op := Op.binOp .eql 25 (Operand.tmp p) (Operand.tmp q) 25, type := ty, pos := pos, after := after, guard := gd } a w K Q := by
  unfold slot at h1 h2
  simp [go_sem, h1, h2]
  exact hK
theorem op_pick (h1 : slot a p = .bool true) (h2 : slot a q = .bool true) (hK : K (a.put (some d) (.bool true)) w) : Oper.wp Tryd.prog { dst := some d, op := Op.pick (Operand.tmp p) (Operand.tmp q) (Operand.const (.bool false)), type := ty, pos := pos, after := after, guard := gd } a w K Q := by
  unfold slot at h1 h2
  simp [go_sem, h1, h2]
  exact hK
theorem op_fa2 {g : Nat} (h1 : slot a p = .pointer (some ⟨g, 0, none⟩)) (hK : K (a.put (some d) (.pointer (some ⟨g, 2, none⟩))) w) : Oper.wp Tryd.prog { dst := some d, op := Op.fieldAddr 28 (Operand.tmp p) 2, type := ty, pos := pos, after := after, guard := gd } a w K Q := by
  unfold slot at h1
  simp [go_sem, h1]
  exact hK
theorem op_fa4 {g : Nat} (h1 : slot a p = .pointer (some ⟨g, 0, none⟩)) (hK : K (a.put (some d) (.pointer (some ⟨g, 4, none⟩))) w) : Oper.wp Tryd.prog { dst := some d, op := Op.fieldAddr 28 (Operand.tmp p) 4, type := ty, pos := pos, after := after, guard := gd } a w K Q := by
  unfold slot at h1
  simp [go_sem, h1]
  exact hK
theorem op_ld {g i : Nat} {x : Int} (h1 : slot a p = .pointer (some ⟨g, i, none⟩)) (h2 : w.cell? ⟨g, i, none⟩ = some (.int .i64 x)) (hK : K (a.put (some d) (.int .i64 x)) w) : Oper.wp Tryd.prog { dst := some d, op := Op.load 3 (Operand.tmp p), type := ty, pos := pos, after := after, guard := gd } a w K Q := by
  unfold slot at h1
  simp [go_sem, h1, h2]
  exact hK
theorem op_one (hK : K (a.put (some d) (.slice (some ⟨w.heap.size, 0, none⟩) 1 1)) (w.alloc (.cells #[.int .u64 1] 37))) : Oper.wp Tryd.prog { dst := some d, op := Op.buildSlice 43 1 #[(0, Operand.const (.int .u64 1))], type := ty, pos := pos, after := after, guard := gd } a w K Q := by
  simp [go_sem]
  exact hK
theorem op_c21 {u u' : Value} {ts : Array TypeId} (h1 : slot a p = u) (h2 : slot a q = u') (hc : Calls Tryd.prog 21 #[u, u'] w fun e w' => ∃ v, e = .returned v ∧ K (a.put (some d) v) w') : Oper.wp Tryd.prog { dst := some d, op := Op.call { callee := Callee.value (Operand.func 21), args := #[Operand.tmp p, Operand.tmp q], argTypes := ts }, type := ty, pos := pos, after := after, guard := gd } a w K Q := by
  unfold slot at h1 h2
  simp [go_sem, h1, h2]
  refine hc.mono ?_
  rintro e w' ⟨v, rfl, hK⟩
  exact hK
theorem op_c22 {u : Value} {ts : Array TypeId} (h1 : slot a p = u) (hc : Calls Tryd.prog 22 #[u] w fun e w' => ∃ v, e = .returned v ∧ K (a.put (some d) v) w') : Oper.wp Tryd.prog { dst := some d, op := Op.call { callee := Callee.value (Operand.func 22), args := #[Operand.tmp p], argTypes := ts }, type := ty, pos := pos, after := after, guard := gd } a w K Q := by
  unfold slot at h1
  simp [go_sem, h1]
  refine hc.mono ?_
  rintro e w' ⟨v, rfl, hK⟩
  exact hK
theorem op_c23 {u u' : Value} {ts : Array TypeId} (h1 : slot a p = u) (h2 : slot a q = u') (hc : Calls Tryd.prog 23 #[u, u'] w fun e w' => ∃ v, e = .returned v ∧ K (a.put (some d) v) w') : Oper.wp Tryd.prog { dst := some d, op := Op.call { callee := Callee.value (Operand.func 23), args := #[Operand.tmp p, Operand.tmp q], argTypes := ts }, type := ty, pos := pos, after := after, guard := gd } a w K Q := by
  unfold slot at h1 h2
  simp [go_sem, h1, h2]
  refine hc.mono ?_
  rintro e w' ⟨v, rfl, hK⟩
  exact hK
theorem op_c24 {u u' : Value} {ts : Array TypeId} (h1 : slot a p = u) (h2 : slot a q = u') (hc : Calls Tryd.prog 24 #[u, u'] w fun e w' => ∃ v, e = .returned v ∧ K (a.put (some d) v) w') : Oper.wp Tryd.prog { dst := some d, op := Op.call { callee := Callee.value (Operand.func 24), args := #[Operand.tmp p, Operand.tmp q], argTypes := ts }, type := ty, pos := pos, after := after, guard := gd } a w K Q := by
  unfold slot at h1 h2
  simp [go_sem, h1, h2]
  refine hc.mono ?_
  rintro e w' ⟨v, rfl, hK⟩
  exact hK
end
/-- the operations of region 14 -/
noncomputable def ops14 : List Oper := match Tryd.f6.body with
  | some (.seq _ (.seq _ (.seq _ (.seq _ (.seq _ (.seq _ (.seq _ (.seq _ (.seq _ (.seq _ (.seq (.region _ o _) _))))))))))) => o.toList
  | _ => []
def slots14 : List Nat := [49, 50, 51, 52, 53, 54, 55, 56, 57, 58, 59, 60, 61, 62, 63, 64, 65, 66, 67]
set_option maxHeartbeats 4000000 in
theorem reg14 {g gc : Nat} {N E : Int} {o o2 : Option Addr} {k c k2 c2 : Nat} {z z2 : Nat → Int} {a0 : Act} {ws : World} {Q : Exit → Act → World → Prop} (hN : okN N) (hs : a0.tmps.size = 69)
    (h5 : slot a0 5 = .pointer (some ⟨g, 0, none⟩)) (h6 : slot a0 6 = .pointer (some ⟨gc, 0, none⟩)) (h9 : slot a0 9 = .slice o k c) (h10 : slot a0 10 = .int .i64 E) (h11 : slot a0 11 = .slice o2 k2 c2) (h12 : slot a0 12 = .int .i64 E)
    (hk : k ≤ 2001) (hk2 : k2 ≤ 50000) (hNa : Num ws o k c z) (hNb : Num ws o2 k2 c2 z2) (hv : val z k = val z2 k2) (hR : Rdy g N ws) (hgc : gc < ws.heap.size) (d2 : ws.cell? ⟨gc, 2, none⟩ = some (.int .i64 (baseN N))) (d4 : ws.cell? ⟨gc, 4, none⟩ = some (.int .i64 (precN N)))
    (hQ : ∀ (a : Act) (w : World), slot a 4 = .bool true → a.tmps.size = 69 → a.defers = a0.defers → Below ws.heap.size ws w → Q .normal a w) :
    (Code.region 14 ops14.toArray true).wp Tryd.prog Q a0 ws := by
  have hfb := fields_bounds N
  refine wp_region_gvals 19 69 slots14 [isV (.int .i64 E), isV (.int .i64 E), isV (.bool true), isV (.bool true), isV (.slice o k c), isV (.slice o2 k2 c2), isV (.bool true), isV (.bool true), isV (.bool true), isV (.pointer (some ⟨g, 0, none⟩)),
    Nv 2001 (baseN N ^ (precN N).toNat - 1), isV (.pointer (some ⟨gc, 2, none⟩)), isV (.int .i64 (baseN N)), isV (.pointer (some ⟨gc, 4, none⟩)), isV (.int .i64 (precN N)), Nv 50000 (baseN N ^ (precN N).toNat), Nv 1 1, Nv 50001 (baseN N ^ (precN N).toNat - 1), isV (.bool true)]
    (fun w => Below ws.heap.size ws w) (by kernel_rfl) (by kernel_rfl) (by kernel_rfl) (by kernel_rfl) hs ?_ (Below.refl _ _).drew (fun w w' h hb => h.trans (hb.mono h.size)) ?_ ?_ ?_
  · intro p hp
    simp only [List.mem_cons, List.not_mem_nil, or_false] at hp
    rcases hp with rfl | rfl | rfl | rfl | rfl | rfl | rfl | rfl | rfl | rfl | rfl | rfl | rfl | rfl | rfl | rfl | rfl | rfl | rfl
    all_goals first | exact isV.stays _ | exact Nv.stays _ _
  · intro i o j b hi ho hg v w hv
    have hor : i = 0 ∨ i = 1 ∨ i = 2 ∨ i = 3 ∨ i = 4 ∨ i = 5 ∨ i = 6 ∨ i = 7 ∨ i = 8 ∨ i = 9 ∨ i = 10 ∨ i = 11 ∨ i = 12 ∨ i = 13 ∨ i = 14 ∨ i = 15 ∨ i = 16 ∨ i = 17 ∨ i = 18 := by omega
    rcases hor with rfl | rfl | rfl | rfl | rfl | rfl | rfl | rfl | rfl | rfl | rfl | rfl | rfl | rfl | rfl | rfl | rfl | rfl | rfl
    all_goals
      obtain rfl := Option.some.inj (show ops14[_]? = some o from ho)
      cases hg
      try exact hv
  · intro i o' a w hi ho hC hF hdep
    have f5 : slot a 5 = .pointer (some ⟨g, 0, none⟩) := (hF 5 (by decide)).trans h5
    have f6 : slot a 6 = .pointer (some ⟨gc, 0, none⟩) := (hF 6 (by decide)).trans h6
    have f9 : slot a 9 = .slice o k c := (hF 9 (by decide)).trans h9
    have f10 : slot a 10 = .int .i64 E := (hF 10 (by decide)).trans h10
    have f11 : slot a 11 = .slice o2 k2 c2 := (hF 11 (by decide)).trans h11
    have f12 : slot a 12 = .int .i64 E := (hF 12 (by decide)).trans h12
    have hor : i = 0 ∨ i = 1 ∨ i = 2 ∨ i = 3 ∨ i = 4 ∨ i = 5 ∨ i = 6 ∨ i = 7 ∨ i = 8 ∨ i = 9 ∨ i = 10 ∨ i = 11 ∨ i = 12 ∨ i = 13 ∨ i = 14 ∨ i = 15 ∨ i = 16 ∨ i = 17 ∨ i = 18 := by omega
    rcases hor with rfl | rfl | rfl | rfl | rfl | rfl | rfl | rfl | rfl | rfl | rfl | rfl | rfl | rfl | rfl | rfl | rfl | rfl | rfl
    · obtain rfl := Option.some.inj (show ops14[0]? = some o' from ho)
      exact op_mv f10 ⟨_, rfl, rfl, Below.refl _ _⟩
    · obtain rfl := Option.some.inj (show ops14[1]? = some o' from ho)
      exact op_mv f12 ⟨_, rfl, rfl, Below.refl _ _⟩
    · obtain rfl := Option.some.inj (show ops14[2]? = some o' from ho)
      exact op_eql (hdep ⟨0, .data⟩ (by simp) rfl : slot a 49 = .int .i64 E) (hdep ⟨1, .data⟩ (by simp) rfl : slot a 50 = .int .i64 E) ⟨_, rfl, rfl, Below.refl _ _⟩
    · obtain rfl := Option.some.inj (show ops14[3]? = some o' from ho)
      exact op_mv (hdep ⟨2, .data⟩ (by simp) rfl : slot a 51 = .bool true) ⟨_, rfl, rfl, Below.refl _ _⟩
    · obtain rfl := Option.some.inj (show ops14[4]? = some o' from ho)
      exact op_mv f9 ⟨_, rfl, rfl, Below.refl _ _⟩
    · obtain rfl := Option.some.inj (show ops14[5]? = some o' from ho)
      exact op_mv f11 ⟨_, rfl, rfl, Below.refl _ _⟩
    · obtain rfl := Option.some.inj (show ops14[6]? = some o' from ho)
      refine op_c21 (hdep ⟨4, .data⟩ (by simp) rfl : slot a 53 = .slice o k c) (hdep ⟨5, .data⟩ (by simp) rfl : slot a 54 = .slice o2 k2 c2) ((rsame_any o o2 k c k2 c2 z z2 w (by omega) (by omega) (hNa.next hC) (hNb.next hC) hv).mono ?_)
      rintro e w' ⟨rfl, rfl⟩
      exact ⟨_, rfl, _, rfl, rfl, Below.refl _ _⟩
    · obtain rfl := Option.some.inj (show ops14[7]? = some o' from ho)
      exact op_pick (hdep ⟨3, .data⟩ (by simp) rfl : slot a 52 = .bool true) (hdep ⟨6, .data⟩ (by simp) rfl : slot a 55 = .bool true) ⟨_, rfl, rfl, Below.refl _ _⟩
    · obtain rfl := Option.some.inj (show ops14[8]? = some o' from ho)
      exact op_mv (hdep ⟨7, .data⟩ (by simp) rfl : slot a 56 = .bool true) ⟨_, rfl, rfl, Below.refl _ _⟩
    · obtain rfl := Option.some.inj (show ops14[9]? = some o' from ho)
      exact op_mv f5 ⟨_, rfl, rfl, Below.refl _ _⟩
    · obtain rfl := Option.some.inj (show ops14[10]? = some o' from ho)
      have hRw := hR.next hC
      refine op_c22 (hdep ⟨9, .data⟩ (by simp) rfl : slot a 58 = .pointer (some ⟨g, 0, none⟩)) ((greatest_any g N w hN (Or.inr hRw)).mono ?_)
      rintro e w' ⟨b5, k5, c5, z5, rfl, hk5, h05, hN5, hv5, hs5, hA5⟩
      exact ⟨_, rfl, _, rfl, ⟨b5, k5, c5, z5, rfl, hk5, hN5, hv5⟩, (hA5.rdy hRw).2⟩
    · obtain rfl := Option.some.inj (show ops14[11]? = some o' from ho)
      exact op_fa2 f6 ⟨_, rfl, rfl, Below.refl _ _⟩
    · obtain rfl := Option.some.inj (show ops14[12]? = some o' from ho)
      exact op_ld (hdep ⟨11, .data⟩ (by simp) rfl : slot a 60 = .pointer (some ⟨gc, 2, none⟩)) ((hC.cell (p := ⟨gc, 2, none⟩) hgc).trans d2) ⟨_, rfl, rfl, Below.refl _ _⟩
    · obtain rfl := Option.some.inj (show ops14[13]? = some o' from ho)
      exact op_fa4 f6 ⟨_, rfl, rfl, Below.refl _ _⟩
    · obtain rfl := Option.some.inj (show ops14[14]? = some o' from ho)
      exact op_ld (hdep ⟨13, .data⟩ (by simp) rfl : slot a 62 = .pointer (some ⟨gc, 4, none⟩)) ((hC.cell (p := ⟨gc, 4, none⟩) hgc).trans d4) ⟨_, rfl, rfl, Below.refl _ _⟩
    · obtain rfl := Option.some.inj (show ops14[15]? = some o' from ho)
      refine op_c24 (hdep ⟨12, .data⟩ (by simp) rfl : slot a 61 = .int .i64 (baseN N)) (hdep ⟨14, .data⟩ (by simp) rfl : slot a 63 = .int .i64 (precN N)) ((rpow4_any _ _ w (by omega) (by omega)).mono ?_)
      rintro e w' ⟨b6, k6, c6, z6, rfl, hk6, hN6, hv6, hb6⟩
      exact ⟨_, rfl, _, rfl, ⟨b6, k6, c6, z6, rfl, hk6, hN6, hv6⟩, hb6⟩
    · obtain rfl := Option.some.inj (show ops14[16]? = some o' from ho)
      exact op_one ⟨_, rfl, ⟨_, 1, 1, oneW 1, rfl, Nat.le_refl _, num_one w 1 (by decide), val_one1 1⟩, below1' w _⟩
    · obtain rfl := Option.some.inj (show ops14[17]? = some o' from ho)
      obtain ⟨b6, k6, c6, z6, e6, hk6, hN6, hv6⟩ := (hdep ⟨15, .data⟩ (by simp) rfl : Nv 50000 (baseN N ^ (precN N).toNat) (slot a 64) w)
      obtain ⟨b7, k7, c7, z7, e7, hk7, hN7, hv7⟩ := (hdep ⟨16, .data⟩ (by simp) rfl : Nv 1 1 (slot a 65) w)
      refine op_c23 e6 e7 ((rless_val _ _ k6 c6 k7 c7 z6 z7 w (by omega) (by omega) hN6 hN7 (by rw [hv6, hv7]; exact (powV_base hN).2)).mono ?_)
      rintro e w' ⟨b8, k8, c8, z8, rfl, hk8, hN8, hv8, hb8⟩
      exact ⟨_, rfl, _, rfl, ⟨b8, k8, c8, z8, rfl, by omega, hN8, by rw [hv8, hv6, hv7]⟩, hb8⟩
    · obtain rfl := Option.some.inj (show ops14[18]? = some o' from ho)
      obtain ⟨b5, k5, c5, z5, e5, hk5, hN5, hv5⟩ := (hdep ⟨10, .data⟩ (by simp) rfl : Nv 2001 (baseN N ^ (precN N).toNat - 1) (slot a 59) w)
      obtain ⟨b8, k8, c8, z8, e8, hk8, hN8, hv8⟩ := (hdep ⟨17, .data⟩ (by simp) rfl : Nv 50001 (baseN N ^ (precN N).toNat - 1) (slot a 66) w)
      refine op_c21 e5 e8 ((rsame_any _ _ k5 c5 k8 c8 z5 z8 w (by omega) (by omega) hN5 hN8 (by rw [hv5, hv8])).mono ?_)
      rintro e w' ⟨rfl, rfl⟩
      exact ⟨_, rfl, _, rfl, rfl, Below.refl _ _⟩
  · intro a w hC hsz hdf hF hR
    have v8 : slot a 57 = .bool true := hR 8 (by omega)
    have v18 : slot a 67 = .bool true := hR 18 (by omega)
    refine BigFrame.wpList_want rfl fun K hK => op_pick v8 v18 (hK _ _ ?_)
    clear K hK
    have v19 : slot (a.put (some 68) (.bool true)) 68 = .bool true := slot_put (by omega)
    refine BigFrame.wpList_want rfl fun K hK => op_as v19 (hK _ _ ?_)
    clear K hK
    exact hQ _ _ (slot_put (by simp [Act.put]; omega)) (by simp [Act.put, hsz]) hdf hC
end Go.Proofs.YtcjbdmgaooojlaaDoor
