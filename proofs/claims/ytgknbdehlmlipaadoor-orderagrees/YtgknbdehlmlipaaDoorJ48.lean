/-
  Texts that the proof leans on.
-/
import Derived.Test.YtgknbdehlmlipaaDoorJ40
import Derived.Test.YtgknbdehlmlipaaDoorJ12
import Derived.Test.YtgknbdehlmlipaaDoorJ34
import Derived.Deep.MidRow
import Derived.Test.YtgknbdehlmlipaaDoorJ22
import Derived.Test.YtgknbdehlmlipaaDoorJ42
set_option linter.unusedVariables false
set_option linter.unusedSectionVars false
set_option linter.unusedSimpArgs false
set_option maxRecDepth 20000
namespace Go.Proofs.YtgknbdehlmlipaaDoor
open Go.RowKit
theorem or_cells {n b : Nat} {a : World} (hb : n ≤ b) : ∀ (vs : List Value) (o : Nat) (W : World), Below n a W → Below n a (W.setCells b o vs)
  | [], _, _, h => h
  | v :: r, o, W, h => or_cells hb r (o + 1) _ (h.setCell hb v)
theorem or_far {g h : Nat} (hne : g ≠ h) (i : Nat) : ∀ (vs : List Value) (o : Nat) (W : World), (W.setCells h o vs).cell? ⟨g, i, none⟩ = W.cell? ⟨g, i, none⟩
  | [], _, _ => rfl
  | v :: r, o, W => by
    have := or_far hne i r (o + 1) (W.setCell ⟨h, o, none⟩ v)
    exact this.trans (by go_simp)
/-- a block that holds an operand -/
structure O9 (g : Nat) (cs : Array Value) (w : World) : Prop where
  lt : g < w.heap.size
  sz : cs.size = 9
  c : ∀ i, i < 9 → w.cell? ⟨g, i, none⟩ = cs[i]?
  z : ∀ i, w.frozen? ⟨g, i, none⟩ = false
theorem O9.next {g : Nat} {cs : Array Value} {w w' : World} (h : O9 g cs w) (hb : Below w.heap.size w w') : O9 g cs w' :=
  ⟨Nat.lt_of_lt_of_le h.lt hb.size, h.sz, fun i hi => (hb.cell (p := ⟨g, i, none⟩) h.lt).trans (h.c i hi), fun i => (hb.frozen (p := ⟨g, i, none⟩) h.lt).trans (h.z i)⟩
theorem O9.put {g : Nat} {cs cs' : Array Value} {w : World} (h : O9 g cs w) (hs : cs'.size = 9) : O9 g cs' (w.setCells g 0 cs'.toList) := by
  have hin := World.cell?_setCells_in g cs'.toList 0 w (fun j hj => by
    rw [Nat.zero_add, h.c j (by simpa [hs] using hj), Array.getElem?_eq_getElem (by rw [h.sz]; simpa [hs] using hj)]; rfl)
  refine ⟨Nat.lt_of_lt_of_le h.lt (or_cells (n := 0) (Nat.zero_le _) _ _ _ (Below.refl 0 w)).size, hs, fun i hi => ?_, fun i => ?_⟩
  · have := hin i (by simpa [hs] using hi)
    rw [Nat.zero_add] at this
    rw [this, Array.getElem?_eq_getElem (by rw [hs]; exact hi)]
    simp
  · rw [World.frozen?_setCells]; exact h.z i
theorem O9.other {g k : Nat} {cs : Array Value} {vs : List Value} {w : World} (h : O9 g cs w) (hne : g ≠ k) : O9 g cs (w.setCells k 0 vs) :=
  ⟨Nat.lt_of_lt_of_le h.lt (or_cells (n := 0) (Nat.zero_le _) _ _ _ (Below.refl 0 w)).size, h.sz, fun i hi => (or_far hne i vs 0 w).trans (h.c i hi), fun i => by rw [World.frozen?_setCells]; exact h.z i⟩
attribute [local irreducible] W4 Nt Nz NT
section
variable {a : Act} {w : World} {K : Act → World → Prop} {Q : Exit → Act → World → Prop} {d p q : Nat} {ty : TypeId} {pos : String} {after : Array Edge} {gd : Option (Nat × Bool)}
theorem or_ld9 {h : Nat} {c x b : Int} {s g : Bool} {k : Nat} (h1 : slot a p = .pointer (some ⟨h, 0, none⟩)) (hO : O9 h (OCs c s g x k b) w) (hK : K (a.put (some d) (OV c s g x k b)) w) : Oper.wp Tryd.prog { dst := some d, op := Op.load 36 (Operand.tmp p), type := ty, pos := pos, after := after, guard := gd } a w K Q :=
  or_ldO h1 (hO.c 0 (by decide)) (hO.c 1 (by decide)) (hO.c 2 (by decide)) (hO.c 3 (by decide)) (hO.c 4 (by decide)) (hO.c 5 (by decide)) (hO.c 6 (by decide)) (hO.c 7 (by decide)) (hO.c 8 (by decide)) hK
theorem or_st9 {h : Nat} {c x b : Int} {s g : Bool} {k : Nat} {cs : Array Value} (h1 : slot a p = .pointer (some ⟨h, 0, none⟩)) (h2 : slot a q = OV c s g x k b) (hB : O9 h cs w) (hK : K (a.put none undef) (w.setCells h 0 (OCs c s g x k b).toList)) : Oper.wp Tryd.prog { dst := none, op := Op.store 36 (Operand.tmp p) (Operand.tmp q), type := ty, pos := pos, after := after, guard := gd } a w K Q := by
  refine wp_store_mid 36 (.tmp p) (.tmp q) rfl h 0 (OCs c s g x k b) (by unfold slot at h1; simp [go_sem, h1]) (by unfold slot at h2; simp [go_sem, h2]) (fun j hj => ?_) (by kernel_rfl) (by simp [Value.oneCell']) hK
  rw [Nat.zero_add, hB.c j hj, Array.getElem?_eq_getElem (by rw [hB.sz]; exact hj)]
  exact ⟨rfl, hB.z j⟩
end
noncomputable def opsBo : List Oper := (Tryd.f8.body.bind (findR 4)).getD []
def slotsBo : List Nat := [25, 26, 27, 0, 1]
set_option maxHeartbeats 4000000 in
theorem regBo {b h j : Nat} {w0 ws : World} {c x e c' x' e' E : Int} {s g s' g' : Bool} {k k' : Nat} {a0 : Act} {Q : Exit → Act → World → Prop} (hs : a0.tmps.size = 28)
    (g8 : slot a0 8 = .pointer (some ⟨h, 0, none⟩)) (g9 : slot a0 9 = .pointer (some ⟨j, 0, none⟩)) (g10 : slot a0 10 = .int .i64 E)
    (hbe : Below b w0 ws) (hlh : b ≤ h) (hlj : b ≤ j) (hne : h ≠ j) (hO : O9 h (OCs c s g x k e) ws) (hO' : O9 j (OCs c' s' g' x' k' e') ws)
    (hQ : ∀ (a : Act) (w : World), Below b w0 w → O9 h (OCs c s g x k e) w → O9 j (OCs c' s' g' x' k' e') w → slot a 10 = .int .i64 E → a.tmps.size = 28 → a.defers = a0.defers → (∀ t, (∀ i, i < 6 → [25, 26, 27, 0, 1, 10].getD i 0 ≠ t) → slot a t = slot a0 t) → Q .normal a w) :
    (Code.region 4 opsBo.toArray true).wp Tryd.prog Q a0 ws := by
  refine wp_region_memg 5 28 slotsBo [iW (OV c s g x k e), iW (OV c' s' g' x' k' e'), iW (.int .i64 E), (fun _ _ => True), (fun _ _ => True)] (fun _ _ => True) (fun _ _ w => Below b w0 w ∧ O9 h (OCs c s g x k e) w ∧ O9 j (OCs c' s' g' x' k' e') w) [] [] (by kernel_rfl) (by kernel_rfl) (by kernel_rfl) (by kernel_rfl) hs ?_ (fun _ => trivial) ?_ ?_ ⟨hbe.drew, hO.next (Below.refl _ _).drew, hO'.next (Below.refl _ _).drew⟩ ?_ ?_ ?_
  · intro j c hj hc
    cases hc
  · intro p hp
    simp only [List.mem_cons, List.not_mem_nil, or_false] at hp
    rcases hp with rfl | rfl | rfl | rfl | rfl
    all_goals exact fun _ _ _ h _ => h
  · intro i hi hG
    cases hG
  · intro L i o a w hi ho hG
    cases hG
  · intro L i o a w hi ho hG hL hcl he hM hF hv
    have f8 : slot a 8 = .pointer (some ⟨h, 0, none⟩) := (hF 8 (by decide)).trans g8
    have f9 : slot a 9 = .pointer (some ⟨j, 0, none⟩) := (hF 9 (by decide)).trans g9
    have f10 : slot a 10 = .int .i64 E := (hF 10 (by decide)).trans g10
    obtain ⟨m1, m2, m3⟩ := hM
    have hor : i = 0 ∨ i = 1 ∨ i = 2 ∨ i = 3 ∨ i = 4 := by omega
    rcases hor with rfl | rfl | rfl | rfl | rfl
    · obtain rfl := Option.some.inj (show opsBo[0]? = some o from ho)
      exact or_ld9 f8 m2 ⟨_, rfl, rfl, trivial, m1, m2, m3⟩
    · obtain rfl := Option.some.inj (show opsBo[1]? = some o from ho)
      exact or_ld9 f9 m3 ⟨_, rfl, rfl, trivial, m1, m2, m3⟩
    · obtain rfl := Option.some.inj (show opsBo[2]? = some o from ho)
      exact og_mv f10 ⟨_, rfl, rfl, trivial, m1, m2, m3⟩
    · obtain rfl := Option.some.inj (show opsBo[3]? = some o from ho)
      exact or_st9 f8 (hv 0 (by decide) rfl (he ⟨0, .data⟩ (by simp) rfl) : slot a 25 = OV c s g x k e) m2 ⟨_, rfl, trivial, trivial, or_cells hlh _ _ _ m1, m2.put rfl, m3.other (Ne.symm hne)⟩
    · obtain rfl := Option.some.inj (show opsBo[4]? = some o from ho)
      exact or_st9 f9 (hv 1 (by decide) rfl (he ⟨1, .data⟩ (by simp) rfl) : slot a 26 = OV c' s' g' x' k' e') m3 ⟨_, rfl, trivial, trivial, or_cells hlj _ _ _ m1, m2.other hne, m3.put rfl⟩
  · intro L a w hL hM hsz hdf hF hv
    obtain ⟨m1, m2, m3⟩ := hM
    refine BigFrame.wpList_want rfl fun K hK => og_as (hv 2 (by decide) rfl : slot a 27 = .int .i64 E) (hK _ _ ?_)
    clear K hK
    refine hQ _ _ m1 m2 m3 (slot_put (by omega)) (by simpa [Act.put] using hsz) hdf (fun t ht => ?_)
    rw [slot_put_ne (show 10 ≠ t from ht 5 (by decide))]
    exact hF t fun i hi => by
      have := ht i (by omega)
      have hor : i = 0 ∨ i = 1 ∨ i = 2 ∨ i = 3 ∨ i = 4 := by omega
      rcases hor with rfl | rfl | rfl | rfl | rfl <;> exact this
/-- what stands while the pattern and one are laid -/
def MXs (ws : World) (X4 : Nat) (L : Nat → Prop) (f : Nat → Value) (w : World) : Prop :=
  Below ws.heap.size ws w ∧ (L 2 → ∃ g X, f 7 = .pointer (some ⟨g, 0, none⟩) ∧ ws.heap.size ≤ g ∧ B4 g X w ∧ (L 4 → X = X4)) ∧ (L 3 → ∃ h, f 8 = .pointer (some ⟨h, 0, none⟩) ∧ ws.heap.size ≤ h ∧ B4 h 0 w) ∧ (L 2 → L 3 → f 7 ≠ f 8)
theorem MXs.next {ws w w' : World} {X4 : Nat} {L : Nat → Prop} {f : Nat → Value} (h : MXs ws X4 L f w) (hb : Below w.heap.size w w') : MXs ws X4 L f w' := by
  obtain ⟨a1, a2, a3, a4⟩ := h
  refine ⟨bnx a1 hb, fun h => ?_, fun h => ?_, a4⟩
  · obtain ⟨g, X, b1, b2, b3, b4⟩ := a2 h
    exact ⟨g, X, b1, b2, b3.next hb, b4⟩
  · obtain ⟨g, b1, b2, b3⟩ := a3 h
    exact ⟨g, b1, b2, b3.next hb⟩
end Go.Proofs.YtgknbdehlmlipaaDoor

namespace Go.Proofs.YtgknbdehlmlipaaDoor
open Go.RowKit
/-- signed, of what the sizes are -/
def sgV (s s' : Bool) (r q : Int) : Int := if s && s' then q else if s then -1 else if s' then 1 else r
def szD (a : Dat) (X : Nat) (b : Dat) (Y : Nat) : Int := szV a.c a.k X a.x b.c b.k Y b.x
def outD (a b : Dat) (X : Nat) : Int :=
  if a.c ≠ b.c then sgn a.c b.c
  else if a.c ≠ 3 then (if szD a X b X ≠ 0 then szD a X b X else sgn a.x b.x)
  else if a.g ≠ b.g then (if a.g then -1 else 1)
  else sgn (a.k : Int) (b.k : Int)
theorem szD_N {a b : Dat} {X Y : Nat} (h1 : ¬ (a.c = 2 ∨ b.c = 2)) (h2 : ¬ (a.k = 0 ∨ b.k = 0)) : szD a X b Y = sgn ((oN a X * oD b Y : Nat) : Int) ((oN b Y * oD a X : Nat) : Int) := by
  unfold szD szV
  rw [if_neg h1, if_neg h2]
  rfl
theorem szD_swap (a b : Dat) (X Y : Nat) : szD b Y a X = - szD a X b Y := by
  unfold szD szV
  by_cases h : a.c = 2 ∨ b.c = 2
  · rw [if_pos h, if_pos h.symm, sgn_neg a.c]
  · rw [if_neg h, if_neg (fun q => h q.symm)]
    by_cases h2 : a.k = 0 ∨ b.k = 0
    · rw [if_pos h2, if_pos h2.symm, sgn_neg (a.k : Int)]
    · rw [if_neg h2, if_neg (fun q => h2 q.symm), sgn_neg ((a.k * X ^ a.x.toNat * (1 * Y ^ (-b.x).toNat) : Nat) : Int)]
theorem sgV_ff (r q : Int) : sgV false false r q = r := rfl
theorem sgV_tf (r q : Int) : sgV true false r q = -1 := rfl
theorem sgV_ft (r q : Int) : sgV false true r q = 1 := rfl
theorem sgV_tt (r q : Int) : sgV true true r q = q := rfl
def nghtD (d : Dat) : Prop := d.c = 1 ∧ d.k = 0
instance (d : Dat) : Decidable (nghtD d) := inferInstanceAs (Decidable (_ ∧ _))
theorem oS_n {d : Dat} (h : nghtD d) : oS d = 0 := if_pos h
theorem oS_y {d : Dat} (h : ¬ nghtD d) : oS d = if d.s then -1 else 1 := if_neg h
theorem szD_n1 {a b : Dat} {X Y : Nat} (ha : nghtD a) (hb : ¬ nghtD b) (hbc : b.c = 1 ∨ b.c = 2) : szD a X b Y = -1 := by
  obtain ⟨a1, a2⟩ := ha
  unfold szD szV
  rcases hbc with h | h
  · have hk : b.k ≠ 0 := fun q => hb ⟨h, q⟩
    rw [if_neg (by omega), if_pos (Or.inl a2), a2]
    unfold sgn
    rw [if_pos (by omega)]
  · rw [if_pos (Or.inr h), a1, h]
    decide
/-- by value: signed sizes, but of two noughts -/
theorem oV_sg {a b : Dat} {X Y : Nat} (ha : a.c = 1 ∨ a.c = 2) (hb : b.c = 1 ∨ b.c = 2) (h0 : ¬ (nghtD a ∧ nghtD b)) : sgV a.s b.s (szD a X b Y) (szD b Y a X) = oV a X b Y := by
  by_cases hna : nghtD a
  · have hnb : ¬ nghtD b := fun h => h0 ⟨hna, h⟩
    have e1 := szD_n1 (X := X) (Y := Y) hna hnb hb
    rw [szD_swap a b X Y, e1, oV_a (Or.inr (oS_n hna)), oS_n hna, oS_y hnb]
    cases a.s <;> cases b.s <;> decide
  · by_cases hnb : nghtD b
    · have e1 := szD_n1 (X := Y) (Y := X) hnb hna ha
      rw [szD_swap b a Y X, e1, oV_swap b Y a X, oV_a (Or.inr (oS_n hnb)), oS_n hnb, oS_y hna]
      cases a.s <;> cases b.s <;> decide
    · have ea := oS_y hna
      have eb := oS_y hnb
      by_cases hs : a.s = b.s
      · have hS : oS a = oS b := by rw [ea, eb, hs]
        have hS0 : oS a ≠ 0 := by rw [ea]; cases a.s <;> decide
        have key : oV a X b Y = oS a * szD a X b Y := by
          by_cases h2 : a.c = 2 ∨ b.c = 2
          · rw [oV_b hS hS0 h2]
            unfold szD szV
            rw [if_pos h2]
          · have ka : ¬ (a.k = 0 ∨ b.k = 0) := by
              rintro (h | h)
              · exact hna ⟨by omega, h⟩
              · exact hnb ⟨by omega, h⟩
            rw [oV_c hS hS0 h2, szD_N h2 ka]
        rw [key, ea, szD_swap a b X Y, ← hs]
        cases a.s
        · rw [sgV_ff]; simp
        · rw [sgV_tt]; simp
      · rw [oV_a (Or.inl (by rw [ea, eb]; revert hs; cases a.s <;> cases b.s <;> decide)), ea, eb]
        revert hs
        cases a.s <;> cases b.s <;> intro hs <;> first | (exact absurd rfl hs) | simp [sgV, sgn]
theorem szD_nn {a b : Dat} {X Y : Nat} (ha : nghtD a) (hb : nghtD b) : szD a X b Y = 0 := by
  obtain ⟨a1, a2⟩ := ha
  obtain ⟨b1, b2⟩ := hb
  unfold szD szV
  rw [if_neg (by omega), if_pos (Or.inl a2), a2, b2]
  exact sgn_self _
theorem oV_nn {a b : Dat} {X Y : Nat} (ha : nghtD a) (hb : nghtD b) : oV a X b Y = 0 := by
  rw [oV_a (Or.inr (oS_n ha)), oS_n ha, oS_n hb]; decide
theorem oV_same {a b : Dat} {X Y : Nat} (ha : a.c = 1 ∨ a.c = 2) (hb : b.c = 1 ∨ b.c = 2) (hs : a.s = b.s) : oV a X b Y = if a.s then szD b Y a X else szD a X b Y := by
  by_cases h : nghtD a ∧ nghtD b
  · rw [oV_nn h.1 h.2, szD_nn h.1 h.2, szD_nn h.2 h.1, ite_self]
  · rw [← oV_sg ha hb h, ← hs]
    cases a.s
    · rw [sgV_ff]; rfl
    · rw [sgV_tt]; rfl
/-- the order of data: signed, from the noughts outward -/
theorem oT_sg {a b : Dat} {X : Nat} (ha : a.c = 1 ∨ a.c = 2 ∨ a.c = 3) (hb : b.c = 1 ∨ b.c = 2 ∨ b.c = 3) : sgV a.s b.s (outD a b X) (outD b a X) = oT a b X := by
  by_cases hs : a.s = b.s
  · by_cases h3 : a.c = 3
    · by_cases h3' : b.c = 3
      · have c0 : ¬ a.c ≠ b.c := fun h => h (h3.trans h3'.symm)
        have c0' : ¬ b.c ≠ a.c := fun h => h (h3'.trans h3.symm)
        unfold outD oT oR oG
        rw [if_neg c0, if_neg c0', if_neg (show ¬ a.c ≠ 3 from fun h => h h3), if_neg (show ¬ b.c ≠ 3 from fun h => h h3'), if_pos h3, if_pos h3', if_pos h3, ← hs]
        rw [sgn_neg (a.k : Int) (b.k : Int)]
        generalize sgn (a.k : Int) (b.k : Int) = z
        cases a.s <;> cases a.g <;> cases b.g <;> simp [sgV, sgn]
      · have c0 : a.c ≠ b.c := by omega
        unfold outD oT oR
        rw [if_pos c0, if_pos (Ne.symm c0), if_pos h3, if_neg h3', ← hs, h3]
        have hb2 : b.c = 1 ∨ b.c = 2 := by omega
        rcases hb2 with e | e <;> rw [e] <;> cases a.s <;> cases a.g <;> simp [sgV, sgn]
    · by_cases h3' : b.c = 3
      · have c0 : a.c ≠ b.c := by omega
        unfold outD oT oR
        rw [if_pos c0, if_pos (Ne.symm c0), if_neg h3, if_pos h3', ← hs, h3']
        have ha2 : a.c = 1 ∨ a.c = 2 := by omega
        rcases ha2 with e | e <;> rw [e] <;> cases a.s <;> cases b.g <;> simp [sgV, sgn]
      · have ha2 : a.c = 1 ∨ a.c = 2 := by omega
        have hb2 : b.c = 1 ∨ b.c = 2 := by omega
        have eR : oR a = oR b := by unfold oR; rw [if_neg h3, if_neg h3', hs]
        have eV := oV_same (X := X) (Y := X) ha2 hb2 hs
        unfold oT
        rw [if_neg (fun h => h eR), if_neg h3, eV, ← hs]
        unfold outD oG
        by_cases hc : a.c = b.c
        · rw [if_neg (show ¬ a.c ≠ b.c from fun h => h hc), if_neg (show ¬ b.c ≠ a.c from fun h => h hc.symm), if_pos h3, if_pos h3']
          rw [sgn_neg a.x b.x]
          generalize szD a X b X = z
          generalize szD b X a X = y
          cases a.s
          · rw [sgV_ff]
            by_cases hz : z = 0 <;> simp [hz]
          · rw [sgV_tt]
            by_cases hz : y = 0 <;> simp [hz]
        · rw [if_pos hc, if_pos (Ne.symm hc)]
          have h2 : a.c = 2 ∨ b.c = 2 := by omega
          have e1 : szD a X b X = sgn a.c b.c := by unfold szD szV; rw [if_pos h2]
          have e2 : szD b X a X = sgn b.c a.c := by unfold szD szV; rw [if_pos h2.symm]
          rw [e1, e2]
          have hor : (a.c = 1 ∧ b.c = 2) ∨ (a.c = 2 ∧ b.c = 1) := by omega
          rcases hor with ⟨q1, q2⟩ | ⟨q1, q2⟩ <;> rw [q1, q2] <;> cases a.s <;> simp [sgV, sgn]
  · have hR : ∀ d : Dat, (d.s = true → oR d ≤ -1) ∧ (d.s = false → 1 ≤ oR d) := by
      intro d
      unfold oR
      constructor <;> intro h <;> rw [h] <;> simp only [if_true, Bool.false_eq_true, if_false] <;> split <;> (try split) <;> omega
    have h1 := hR a
    have h2 := hR b
    unfold oT
    revert hs h1 h2
    cases a.s <;> cases b.s <;> intro hs h1 h2
    · exact absurd rfl hs
    · have p := h1.2 rfl
      have q := h2.1 rfl
      rw [if_pos (by omega), sgV_ft]
      unfold sgn
      rw [if_neg (by omega), if_pos (by omega)]
    · have p := h1.1 rfl
      have q := h2.2 rfl
      rw [if_pos (by omega), sgV_tf]
      unfold sgn
      rw [if_pos (by omega)]
    · exact absurd rfl hs
end Go.Proofs.YtgknbdehlmlipaaDoor
