/-
  A format's powers in memory: the block that NewPowers makes, and the list behind it.
-/
import Derived.Test.YtcjbdmgaooojlaaDoorHld
import Derived.Test.YtcjbdmgaooojlaaDoorPows
set_option linter.unusedVariables false
set_option linter.unusedSimpArgs false
set_option maxRecDepth 20000
namespace Go.Proofs.YtcjbdmgaooojlaaDoor
open Go.RowKit

section
variable {g B : Nat} {w w' a b c : World}
theorem keep_refl (g : Nat) (w : World) : w.grownBy w (some g) := ⟨rfl, rfl, rfl, Nat.le_refl _, fun _ _ _ => rfl⟩
theorem keep_trans (h : a.grownBy b (some g)) (k : b.grownBy c (some g)) : a.grownBy c (some g) :=
  ⟨k.os.trans h.os, k.tape.trans h.tape, k.output.trans h.output, Nat.le_trans h.size k.size, fun j hj hg => (k.block j (Nat.lt_of_lt_of_le hj h.size) hg).trans (h.block j hj hg)⟩
theorem keep_of_below (h : Below w.heap.size w w') : w.grownBy w' (some g) := ⟨h.os, h.tape, h.output, h.size, fun j hj _ => h.block j hj⟩
theorem keep_set (w : World) (g k : Nat) (v : Value) : w.grownBy (w.setCell ⟨g, k, none⟩ v) (some g) := by
  have h := (Below.refl 0 w).setCell (p := ⟨g, k, none⟩) (Nat.zero_le _) v
  exact ⟨h.os, h.tape, h.output, h.size, fun j hj hg => Below.heap_setCell w _ v j (by intro e; exact hg (by rw [e]))⟩
theorem keep_drew (g : Nat) (w : World) : w.grownBy w.drew (some g) := ⟨rfl, rfl, rfl, Nat.le_refl _, fun _ _ _ => rfl⟩
theorem below_of_keep (h : w.grownBy w' (some g)) (hB : B ≤ g) (hB' : B ≤ w.heap.size) : Below B w w' :=
  ⟨h.os, h.tape, h.output, h.size, fun k hk => h.block k (by omega) (by intro e; cases e; omega)⟩
theorem keep_cell (h : w.grownBy w' (some g)) {q k : Nat} (hb : q < w.heap.size) (hne : q ≠ g) : w'.cell? ⟨q, k, none⟩ = w.cell? ⟨q, k, none⟩ := World.cell?_of_block (w := w) (h.block q hb (by intro e; cases e; exact hne rfl))
theorem num_row {row : Option Nat} {q off n c : Nat} {x : Nat → Int} (h : Num w (some ⟨q, off, none⟩) n c x) (hk : w.grownBy w' row) (hne : some q ≠ row) : Num w' (some ⟨q, off, none⟩) n c x := by
  obtain ⟨h1, h2, h3, h4, h5⟩ := h
  refine ⟨h1, h2, h3, h4, ?_⟩
  rcases h5 with ⟨h5, _⟩ | ⟨b', o', e, hb, hc⟩
  · cases h5
  · cases e
    refine Or.inr ⟨q, off, rfl, Nat.lt_of_lt_of_le hb hk.size, fun i hi => ?_⟩
    rw [World.cell?_of_block (w := w) (hk.block q hb hne)]; exact hc i hi
theorem num_lt {q off n c : Nat} {x : Nat → Int} (h : Num w (some ⟨q, off, none⟩) n c x) : q < w.heap.size := by
  obtain ⟨_, _, _, _, h5⟩ := h
  rcases h5 with ⟨h5, _⟩ | ⟨b', o', e, hb, hc⟩
  · cases h5
  · cases e; exact hb
end

/-- the block of a format's powers: done, the lock, how often made, the list, the greatest -/
structure PowB (g : Nat) (n d m c : Int) (l gr : Value) (w : World) : Prop where
  lt : g < w.heap.size
  loose : ∀ k, w.frozen? ⟨g, k, none⟩ = false
  num : w.cell? ⟨g, 0, none⟩ = some (.int .i64 (numN n))
  base : w.cell? ⟨g, 2, none⟩ = some (.int .i64 (baseN n))
  prec : w.cell? ⟨g, 4, none⟩ = some (.int .i64 (precN n))
  done : w.cell? ⟨g, 10, none⟩ = some (.int .u32 d)
  lock : w.cell? ⟨g, 11, none⟩ = some (.int .i32 m)
  made : w.cell? ⟨g, 13, none⟩ = some (.int .i32 c)
  list : w.cell? ⟨g, 14, none⟩ = some l
  great : w.cell? ⟨g, 15, none⟩ = some gr
section
variable {g : Nat} {n d m c : Int} {l gr : Value} {w w' : World}
theorem PowB.of_block (h : PowB g n d m c l gr w) (hb : w'.heap[g]? = w.heap[g]?) (hs : w.heap.size ≤ w'.heap.size) : PowB g n d m c l gr w' := by
  have e : ∀ k, w'.cell? ⟨g, k, none⟩ = w.cell? ⟨g, k, none⟩ := fun k => World.cell?_of_block (w := w) hb
  exact ⟨Nat.lt_of_lt_of_le h.lt hs, fun k => (World.frozen?_of_block (w := w) (a := ⟨g, k, none⟩) hb).trans (h.loose k), (e 0).trans h.num, (e 2).trans h.base, (e 4).trans h.prec, (e 10).trans h.done, (e 11).trans h.lock, (e 13).trans h.made, (e 14).trans h.list, (e 15).trans h.great⟩
theorem PowB.next (h : PowB g n d m c l gr w) (hb : Below w.heap.size w w') : PowB g n d m c l gr w' := h.of_block (hb.block g h.lt) hb.size
theorem PowB.row {row : Option Nat} (h : PowB g n d m c l gr w) (hk : w.grownBy w' row) (hne : some g ≠ row) : PowB g n d m c l gr w' := h.of_block (hk.block g h.lt hne) hk.size
theorem set_other (w : World) (g i k : Nat) (v : Value) (hne : i ≠ k) : (w.setCell ⟨g, i, none⟩ v).cell? ⟨g, k, none⟩ = w.cell? ⟨g, k, none⟩ :=
  World.cell?_setCell_other (h := by intro q; cases q; exact hne rfl) ..
theorem PowB.setLock (h : PowB g n d m c l gr w) (m' : Int) : PowB g n d m' c l gr (w.setCell ⟨g, 11, none⟩ (.int .i32 m')) :=
  ⟨Nat.lt_of_lt_of_le h.lt (keep_set w g _ _).size, fun k => by rw [World.frozen?_setCell]; exact h.loose k, (set_other w g _ _ _ (by decide)).trans h.num, (set_other w g _ _ _ (by decide)).trans h.base, (set_other w g _ _ _ (by decide)).trans h.prec, (set_other w g _ _ _ (by decide)).trans h.done, World.cell?_setCell_same _ _ _ h.lock, (set_other w g _ _ _ (by decide)).trans h.made, (set_other w g _ _ _ (by decide)).trans h.list, (set_other w g _ _ _ (by decide)).trans h.great⟩
theorem PowB.setDone (h : PowB g n d m c l gr w) (d' : Int) : PowB g n d' m c l gr (w.setCell ⟨g, 10, none⟩ (.int .u32 d')) :=
  ⟨Nat.lt_of_lt_of_le h.lt (keep_set w g _ _).size, fun k => by rw [World.frozen?_setCell]; exact h.loose k, (set_other w g _ _ _ (by decide)).trans h.num, (set_other w g _ _ _ (by decide)).trans h.base, (set_other w g _ _ _ (by decide)).trans h.prec, World.cell?_setCell_same _ _ _ h.done, (set_other w g _ _ _ (by decide)).trans h.lock, (set_other w g _ _ _ (by decide)).trans h.made, (set_other w g _ _ _ (by decide)).trans h.list, (set_other w g _ _ _ (by decide)).trans h.great⟩
theorem PowB.setMade (h : PowB g n d m c l gr w) (c' : Int) : PowB g n d m c' l gr (w.setCell ⟨g, 13, none⟩ (.int .i32 c')) :=
  ⟨Nat.lt_of_lt_of_le h.lt (keep_set w g _ _).size, fun k => by rw [World.frozen?_setCell]; exact h.loose k, (set_other w g _ _ _ (by decide)).trans h.num, (set_other w g _ _ _ (by decide)).trans h.base, (set_other w g _ _ _ (by decide)).trans h.prec, (set_other w g _ _ _ (by decide)).trans h.done, (set_other w g _ _ _ (by decide)).trans h.lock, World.cell?_setCell_same _ _ _ h.made, (set_other w g _ _ _ (by decide)).trans h.list, (set_other w g _ _ _ (by decide)).trans h.great⟩
theorem PowB.setList (h : PowB g n d m c l gr w) (l' : Value) : PowB g n d m c l' gr (w.setCell ⟨g, 14, none⟩ l') :=
  ⟨Nat.lt_of_lt_of_le h.lt (keep_set w g _ _).size, fun k => by rw [World.frozen?_setCell]; exact h.loose k, (set_other w g _ _ _ (by decide)).trans h.num, (set_other w g _ _ _ (by decide)).trans h.base, (set_other w g _ _ _ (by decide)).trans h.prec, (set_other w g _ _ _ (by decide)).trans h.done, (set_other w g _ _ _ (by decide)).trans h.lock, (set_other w g _ _ _ (by decide)).trans h.made, World.cell?_setCell_same _ _ _ h.list, (set_other w g _ _ _ (by decide)).trans h.great⟩
theorem PowB.setGreat (h : PowB g n d m c l gr w) (gr' : Value) : PowB g n d m c l gr' (w.setCell ⟨g, 15, none⟩ gr') :=
  ⟨Nat.lt_of_lt_of_le h.lt (keep_set w g _ _).size, fun k => by rw [World.frozen?_setCell]; exact h.loose k, (set_other w g _ _ _ (by decide)).trans h.num, (set_other w g _ _ _ (by decide)).trans h.base, (set_other w g _ _ _ (by decide)).trans h.prec, (set_other w g _ _ _ (by decide)).trans h.done, (set_other w g _ _ _ (by decide)).trans h.lock, (set_other w g _ _ _ (by decide)).trans h.made, (set_other w g _ _ _ (by decide)).trans h.list, World.cell?_setCell_same _ _ _ h.great⟩
end

/-- element i of the list: a power -/
def El (B : Int) (i base : Nat) (v : Value) (w : World) (row : Option Nat) : Prop :=
  ∃ b k c z, v = .slice (some ⟨b, 0, none⟩) k c ∧ Num w (some ⟨b, 0, none⟩) k c z ∧ val z k = B ^ (2 ^ i) ∧ k ≤ 2001 ∧ sizeL z k = k ∧ base ≤ b ∧ some b ≠ row
/-- the first m powers stand in the list l, all of it in blocks from base on -/
def Lis (base m : Nat) (B : Int) (l : Value) (w : World) : Prop := ∃ vs : List Value, w.ownsRow base 43 1 l m vs ∧ ∀ i, i < m → ∃ v, vs[i]? = some v ∧ El B i base v w l.ownBlock
section
variable {base m g : Nat} {B : Int} {l : Value} {w w' : World}
theorem Lis.start (base : Nat) (B : Int) (w : World) : Lis base 0 B (.slice none 0 0) w := ⟨[], ⟨rfl, Or.inl ⟨rfl, rfl⟩⟩, fun i hi => by omega⟩
theorem owns_row {row : Option Nat} {t : TypeId} {s : Nat} {vs : List Value} (h : w.ownsRow base t s l m vs) (hk : w.grownBy w' row) (hne : l.ownBlock = Option.none ∨ l.ownBlock ≠ row) : w'.ownsRow base t s l m vs := by
  obtain ⟨h1, h2⟩ := h
  refine ⟨h1, ?_⟩
  rcases h2 with h2 | ⟨q, cap, cur, rfl, h4, h5, h6⟩
  · exact Or.inl h2
  · have hq : q < w.heap.size := by
      rcases Nat.lt_or_ge q w.heap.size with h | h
      · exact h
      · rw [Array.getElem?_eq_none h] at h5; cases h5
    refine Or.inr ⟨q, cap, cur, rfl, h4, ?_, h6⟩
    rw [hk.block q hq ?_]; exact h5
    rcases hne with hne | hne
    · cases hne
    · exact hne
theorem own_ge {t : TypeId} {s : Nat} {vs : List Value} (h : w.ownsRow base t s l m vs) : l.ownBlock = Option.none ∨ ∃ q, l.ownBlock = some q ∧ base ≤ q ∧ q < w.heap.size := by
  obtain ⟨h1, h2⟩ := h
  rcases h2 with ⟨rfl, _⟩ | ⟨q, cap, cur, rfl, h4, h5, h6⟩
  · exact Or.inl rfl
  · refine Or.inr ⟨q, rfl, h4, ?_⟩
    rcases Nat.lt_or_ge q w.heap.size with h | h
    · exact h
    · rw [Array.getElem?_eq_none h] at h5; cases h5
theorem Lis.keep (h : Lis base m B l w) (hk : w.grownBy w' (some g)) (hg : g < base) : Lis base m B l w' := by
  obtain ⟨vs, h1, h2⟩ := h
  refine ⟨vs, owns_row h1 hk ?_, fun i hi => ?_⟩
  · rcases own_ge h1 with e | ⟨q, e, hq, _⟩
    · exact Or.inl e
    · refine Or.inr ?_
      rw [e]; intro k; cases k; omega
  · obtain ⟨v, hv, b, k, c, z, e, hN, hval, hk2, hs, hb, hr⟩ := h2 i hi
    exact ⟨v, hv, b, k, c, z, e, num_row hN hk (by intro q; cases q; omega), hval, hk2, hs, hb, hr⟩
theorem Lis.push {vs : List Value} {v : Value} {q cap : Nat} (h1 : w.ownsRow base 43 1 l m vs) (h2 : ∀ i, i < m → ∃ v, vs[i]? = some v ∧ El B i base v w l.ownBlock) (hv : El B m base v w l.ownBlock)
    (h' : w'.ownsRow base 43 1 (.slice (some ⟨q, 0, none⟩) (m + 1) cap) (m + 1) (vs ++ [v])) (hk : w.grownBy w' l.ownBlock) (hq : l.ownBlock = some q ∨ q = w.heap.size) : Lis base (m + 1) B (.slice (some ⟨q, 0, none⟩) (m + 1) cap) w' := by
  have hl : vs.length = m := by simpa using h1.1
  have turn : ∀ i v, El B i base v w l.ownBlock → El B i base v w' (some q) := by
    rintro i v ⟨b, k, c, z, e, hN, hval, hk2, hs, hb, hr⟩
    refine ⟨b, k, c, z, e, num_row hN hk hr, hval, hk2, hs, hb, ?_⟩
    rcases hq with hq | hq
    · rw [hq] at hr; exact hr
    · have := num_lt hN
      intro e; cases e; omega
  refine ⟨vs ++ [v], h', fun i hi => ?_⟩
  by_cases e : i = m
  · subst e
    exact ⟨v, by simp [hl], turn _ _ hv⟩
  · obtain ⟨u, hu, hE⟩ := h2 i (by omega)
    exact ⟨u, by rw [List.getElem?_append_left (by omega)]; exact hu, turn _ _ hE⟩
end
end Go.Proofs.YtcjbdmgaooojlaaDoor
