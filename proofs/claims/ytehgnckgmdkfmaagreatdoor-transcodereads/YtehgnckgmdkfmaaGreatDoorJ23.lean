/-
  Texts that the proof leans on.
-/
import Derived.Test.YtehgnckgmdkfmaaGreatDoorJ20
import Derived.Test.YtehgnckgmdkfmaaGreatDoorJ10
import Derived.Test.YtehgnckgmdkfmaaGreatDoorJ17
import Derived.Test.YtehgnckgmdkfmaaGreatDoorJ8
import Derived.RegionTactic
import Derived.ChangeAlike
import Derived.BigRegion
import Derived.Laws.Strings2
import Derived.Test.YtehgnckgmdkfmaaGreatDoorJ3
set_option linter.unusedVariables false
set_option linter.unusedSectionVars false
set_option linter.unusedSimpArgs false
set_option maxRecDepth 20000
namespace Go.Proofs.YtehgnckgmdkfmaaGreatDoor
open Go.RowKit
section
attribute [local irreducible] W4 Nt NT
section
variable {a : Act} {w : World} {K : Act → World → Prop} {Q : Exit → Act → World → Prop} {d p q : Nat} {ty : TypeId} {pos : String} {after : Array Edge} {gd : Option (Nat × Bool)}
end
/-- what stands while the statement is under way -/
def K10 (ws : World) (gd N : Nat) (c0 cv : Array Value) (L : Nat → Prop) (f : Nat → Value) (w : World) : Prop :=
  (L 6 → L 12 ∨ NT 1001 N (f 52) w) ∧ (L 7 → L 12 ∨ NT 1 1 (f 53) w) ∧ (¬ L 16 → Below ws.heap.size ws w ∧ D8 gd c0 w) ∧ (L 16 → ∃ w0, Below ws.heap.size ws w0 ∧ w = w0.setCells gd 0 cv.toList)
theorem K10.step {ws w : World} {gd N : Nat} {c0 cv : Array Value} {k t : Nat} {L : Nat → Prop} {f : Nat → Value} {v : Value} (h : K10 ws gd N c0 cv L f w) (n16 : ¬ L 16) (h1 : t ≠ 52) (h2 : t ≠ 53) (h3 : k ≠ 6) (h4 : k ≠ 7) (h5 : k ≠ 16) (h6 : k ≠ 12) : K10 ws gd N c0 cv (fun j => L j ∨ j = k) (fun u => if some t = some u then v else f u) w := by
  obtain ⟨a1, a2, a3, a4⟩ := h
  have e52 : (if some t = some 52 then v else f 52) = f 52 := if_neg (fun e => h1 (Option.some.inj e))
  have e53 : (if some t = some 53 then v else f 53) = f 53 := if_neg (fun e => h2 (Option.some.inj e))
  refine ⟨fun h => ?_, fun h => ?_, fun _ => a3 n16, fun h => absurd (h.resolve_right (fun e => h5 e.symm)) n16⟩
  · rcases a1 (h.resolve_right (fun e => h3 e.symm)) with q | q
    · exact Or.inl (Or.inl q)
    · right; show NT 1001 N (if some t = some 52 then v else f 52) w; rw [e52]; exact q
  · rcases a2 (h.resolve_right (fun e => h4 e.symm)) with q | q
    · exact Or.inl (Or.inl q)
    · right; show NT 1 1 (if some t = some 53 then v else f 53) w; rw [e53]; exact q
end
/-- what Make answers: the error, the pattern, the flags -/
noncomputable def kmE (n d : Int) (p : Prt) : Int := open Classical in if decN n ∧ knB d then (if gdP p then 0 else 2) else 1
noncomputable def kmV (n d : Int) (p : Prt) : Nat := if kmE n d p = 0 then vPV n (dmD n d p) else 0
noncomputable def kmF (n d : Int) (p : Prt) : Int := if kmE n d p = 0 then dmF n d p else 0
theorem gd_dig {p : Prt} (h : gdP p) : p.dig.all dg = true ∧ p.dig.length ≤ 4000 := by
  refine ⟨gdD_all h.1, (jn_of_gd h).1⟩
theorem dig_bl {l : List UInt8} (h : l.all dg = true) (hl : l.length ≤ 4000) : bl (dV l) ≤ 16001 := by
  have h1 := (dV_lt h).1
  have h2 := ten_bl l.length
  have h3 := bl_le.1 h2
  have h4 : bl (dV l) ≤ 4 * l.length + 1 := bl_le.2 (Nat.lt_trans h1 h3)
  omega
section
attribute [local irreducible] W4
/-- what Read answers: the error, the pattern, the flags -/
noncomputable def krE (n d : Int) (l : List UInt8) : Int := if decN n ∧ knB d then (if cutE l = 0 then kmE n d (cutV l) else cutE l) else 1
noncomputable def krV (n d : Int) (l : List UInt8) : Nat := if krE n d l = 0 then kmV n d (cutV l) else 0
noncomputable def krF (n d : Int) (l : List UInt8) : Int := if krE n d l = 0 then kmF n d (cutV l) else 0
theorem km_not {n d : Int} {p : Prt} (h : kmE n d p ≠ 0) : kmV n d p = 0 ∧ kmF n d p = 0 := ⟨if_neg h, if_neg h⟩
theorem cut_exD {l : List UInt8} {p : Prt} (h : cutP l = some p) : -9223372036854775808 ≤ p.ex ∧ p.ex ≤ 9223372036854775807 := by
  rcases (cut_good h).2 with ⟨_, _, h⟩ | h | h
  · omega
  · obtain ⟨_, _, _, h⟩ := h
    omega
  · obtain ⟨_, h⟩ := h
    omega
end
section
attribute [local irreducible] W4 Nt
/-- what is written of a pattern, and the error -/
def dwT (n : Int) (Bp : Nat) : List UInt8 := if goodD n Bp then xtT (vM (fD n) Bp) else []
end
/-- a format's twin -/
def twN (n : Int) : Int := if n ≤ 9 then n + 3 else n - 3
def twV (n : Int) : Int := if decN n then twN n else 0
def twE (n : Int) : Int := if decN n then 0 else 1
theorem tw_dec {n : Int} (h : decN n) : decN (twN n) := by
  unfold twN
  unfold decN at *
  split <;> omega
theorem fD_tw {n : Int} (h : decN n) : ∃ b, fD (twN n) = { fD n with dn := b } := by
  rcases dec_cases h with rfl | rfl | rfl | rfl | rfl | rfl <;> exact ⟨_, rfl⟩
theorem vI_tw {n : Int} (h : decN n) (v : Dat) : vI (fD (twN n)) v ↔ vI (fD n) v := by
  obtain ⟨b, e⟩ := fD_tw h
  rw [e]
  exact Iff.rfl
theorem tw_w {n : Int} (h : decN n) : (fD (twN n)).t = (fD n).t ∧ (fD (twN n)).w = (fD n).w ∧ (fD (twN n)).j = (fD n).j := by
  obtain ⟨b, e⟩ := fD_tw h
  rw [e]
  exact ⟨rfl, rfl, rfl⟩
theorem rqE_tw {n : Int} (h : decN n) (d : Int) (N D : Nat) : rqE (twN n) d N D = rqE n d N D := by
  unfold rqE
  have e : (decN (twN n) ∧ knB d ∧ D ≠ 0) = (decN n ∧ knB d ∧ D ≠ 0) := by
    rw [eq_true (tw_dec h), eq_true h]
  simp only [e]
theorem rqD_tw {n : Int} (h : decN n) (d : Int) (s : Bool) (N D : Nat) (x y : Int) : rqD (twN n) d s N D x y = rqD n d s N D x y := by
  obtain ⟨b, e⟩ := fD_tw h
  unfold rqD
  rw [rqE_tw h, e]
  rfl
theorem rqF_tw {n : Int} (h : decN n) (d : Int) (s : Bool) (N D : Nat) (x : Int) : rqF (twN n) d s N D x = rqF n d s N D x := by
  obtain ⟨b, e⟩ := fD_tw h
  unfold rqF
  rw [rqE_tw h, e]
  rfl
theorem dm_tw {n : Int} (h : decN n) (d : Int) (p : Prt) : dmD (twN n) d p = dmD n d p ∧ dmF (twN n) d p = dmF n d p := by
  obtain ⟨_, _, ej⟩ := tw_w h
  unfold dmD dmF
  rw [rqD_tw h, rqF_tw h, ej]
  exact ⟨rfl, rfl⟩
theorem kmE_tw {n : Int} (h : decN n) (d : Int) (p : Prt) : kmE (twN n) d p = kmE n d p := by
  unfold kmE
  have e : (decN (twN n) ∧ knB d) = (decN n ∧ knB d) := by rw [eq_true (tw_dec h), eq_true h]
  simp only [e]
theorem krE_tw {n : Int} (h : decN n) (d : Int) (l : List UInt8) : krE (twN n) d l = krE n d l := by
  unfold krE
  have e : (decN (twN n) ∧ knB d) = (decN n ∧ knB d) := by rw [eq_true (tw_dec h), eq_true h]
  simp only [e, kmE_tw h]
theorem krF_tw {n : Int} (h : decN n) (d : Int) (l : List UInt8) : krF (twN n) d l = krF n d l := by
  unfold krF kmF
  rw [krE_tw h, kmE_tw h, (dm_tw h d _).2]
/-- a pattern's code, and the error -/
def tcV (n : Int) (B : Nat) : Nat := if goodD n B then vP (fD (twN n)) (vM (fD n) B) else 0
theorem tc_good {n : Int} {B : Nat} (h : goodD n B) : goodD (twN n) (tcV n B) ∧ vM (fD (twN n)) (tcV n B) = vM (fD n) B ∧ tcV n B < 2 ^ 256 := by
  have hi := (vI_tw h.1 _).2 (vM_is (fD_ok n) B)
  have e : tcV n B = vP (fD (twN n)) (vM (fD n) B) := if_pos h
  rw [e]
  exact ⟨⟨tw_dec h.1, vP_lt (fD_ok _) hi⟩, vM_vP (fD_ok _) hi, vP_256 (fD_ok _) hi⟩
theorem tc_pack {n : Int} {B : Nat} (h : goodD n B) : vPV (twN n) (vM (fD n) B) = tcV n B ∧ vPE (twN n) (vM (fD n) B) = 0 := by
  have hi := (vI_tw h.1 _).2 (vM_is (fD_ok n) B)
  unfold vPV vPE tcV
  rw [if_pos ⟨tw_dec h.1, hi⟩, if_pos (tw_dec h.1), if_pos hi, if_pos h]
  exact ⟨rfl, rfl⟩
/-- what is read into both is the code -/
theorem kr_tw {n : Int} (h : decN n) (d : Int) (l : List UInt8) (h0 : krE n d l = 0) : goodD n (krV n d l) ∧ tcV n (krV n d l) = krV (twN n) d l := by
  have h0' : krE (twN n) d l = 0 := by rw [krE_tw h]; exact h0
  have hd : knB d := by
    unfold krE at h0
    by_cases hh : decN n ∧ knB d
    · exact hh.2
    · rw [if_neg hh] at h0; omega
  have hk : kmE n d (cutV l) = 0 := by
    unfold krE at h0
    rw [if_pos ⟨h, hd⟩] at h0
    by_cases hh : cutE l = 0
    · rw [if_pos hh] at h0; exact h0
    · rw [if_neg hh] at h0; omega
  have hk' : kmE (twN n) d (cutV l) = 0 := by rw [kmE_tw h]; exact hk
  have hg : gdP (cutV l) := by
    unfold kmE at hk
    rw [if_pos ⟨h, hd⟩] at hk
    by_cases hh : gdP (cutV l)
    · exact hh
    · rw [if_neg hh] at hk; omega
  obtain ⟨g1, g2⟩ := gd_dig hg
  have hbl := dig_bl g1 g2
  have hi := dm_is (d := d) h hd hg (by omega)
  have hi' := (vI_tw h _).2 hi
  have e1 : krV n d l = vP (fD n) (dmD n d (cutV l)) := by
    unfold krV kmV vPV
    rw [if_pos h0, if_pos hk, if_pos ⟨h, hi⟩]
  have e2 : krV (twN n) d l = vP (fD (twN n)) (dmD n d (cutV l)) := by
    unfold krV kmV vPV
    rw [if_pos h0', if_pos hk', (dm_tw h d _).1, if_pos ⟨tw_dec h, hi'⟩]
  have hgd : goodD n (krV n d l) := by
    rw [e1]
    exact ⟨h, vP_lt (fD_ok _) hi⟩
  refine ⟨hgd, ?_⟩
  rw [show tcV n (krV n d l) = vP (fD (twN n)) (vM (fD n) (krV n d l)) from if_pos hgd, e1, vM_vP (fD_ok n) hi, e2]
section
/-- what dectext's calls answer, in a class of worlds -/
structure DtxC (TT : World → Prop) : Prop where
  next : ∀ w w', TT w → Below w.heap.size w w' → TT w'
  t10 : ∀ w, TT w → Tb10 w
  wr : ∀ n Bp W, Bp < 2 ^ 256 → TT W → Calls Tryz.prog 9 #[.int .i64 n, A4 Bp] W fun r w' => r = .returned (.tuple #[.string (B (dwT n Bp)), .int .i64 (vUE n Bp)]) ∧ Below W.heap.size W w'
/-- and Read -/
structure DtxR (TT : World → Prop) : Prop where
  rd : ∀ n d l W, l.length < 10001 → TT W → Calls Tryz.prog 10 #[.int .i64 n, .int .i64 d, .string (B l)] W fun r w' => r = .returned (.tuple #[A4 (krV n d l), .int .i64 (krF n d l), .int .i64 (krE n d l)]) ∧ Below W.heap.size W w'
attribute [local irreducible] W4
theorem km_256 (n d : Int) (p : Prt) : kmV n d p < 2 ^ 256 := by
  unfold kmV
  split
  · exact vPV_256 n _
  · decide
theorem kr_256 (n d : Int) (l : List UInt8) : krV n d l < 2 ^ 256 := by
  unfold krV
  split
  · exact km_256 n d _
  · decide
end
section
/-- what transcode's calls answer, in a class of worlds -/
structure TrcC (TT : World → Prop) : Prop where
  next : ∀ w w', TT w → Below w.heap.size w w' → TT w'
  tw : ∀ n W, TT W → Calls Tryz.prog 7 #[.int .i64 n] W fun r w' => r = .returned (.tuple #[.int .i64 (twV n), .int .i64 (twE n)]) ∧ Below W.heap.size W w'
  cd : ∀ n Bp W, Bp < 2 ^ 256 → TT W → Calls Tryz.prog 8 #[.int .i64 n, A4 Bp] W fun r w' => r = .returned (.tuple #[A4 (tcV n Bp), .int .i64 (vUE n Bp)]) ∧ Below W.heap.size W w'
theorem awk17_T : tcV 7 847249409 = 575668225 ∧ vUE 7 847249409 = 0 := ⟨by kernel_rfl, by kernel_rfl⟩
theorem awk17_W : (W4 847249409 0 = 847249409 ∧ W4 847249409 1 = 0 ∧ W4 847249409 2 = 0 ∧ W4 847249409 3 = 0) ∧ (W4 575668225 0 = 575668225 ∧ W4 575668225 1 = 0 ∧ W4 575668225 2 = 0 ∧ W4 575668225 3 = 0) := ⟨⟨by decide, by decide, by decide, by decide⟩, ⟨by decide, by decide, by decide, by decide⟩⟩
attribute [local irreducible] W4
set_option maxHeartbeats 1000000 in
theorem awake17 {TT : World → Prop} (h : TrcC TT) (w : World) (hT : TT w) : Calls Tryz.prog 5 #[] w fun r w' => r = .returned (.bool true) ∧ Below w.heap.size w w' := by
  have c9 := fun W hW => h.cd 7 847249409 W (by decide) hW
  obtain ⟨e1, e2⟩ := awk17_T
  obtain ⟨⟨w0, w1, w2, w3⟩, u0, u1, u2, u3⟩ := awk17_W
  have e3 := eq24 575668225 0 0 0 575668225 0 0 0
  rw [decide_eq_true ⟨rfl, rfl, rfl, rfl⟩] at e3
  rw [e1, e2] at c9
  unfold A4 at c9
  rw [w0, w1, w2, w3, u0, u1, u2, u3] at c9
  clear w0 w1 w2 w3 u0 u1 u2 u3 e1 e2
  have hsm := cell_set_map
  go_enter Tryz.func5, Tryz.ntmps5
  go_wp2_with (go_at_call 8; refine (c9 _ (h.next _ _ hT bgo)).mono ?_; rintro r w1 ⟨rfl, hb1⟩; obtain ⟨hc1, hf1⟩ := bcell hb1; have hA1 := bnext (w0 := w) bgo hb1; have hs1 := hA1.size; clear hb1)
  go_ret
  exact ⟨by first | rfl | simp, bgo⟩
section
variable (TT : World → Prop) (hTT : ∀ w w', TT w → Below w.heap.size w w' → TT w') (w : World) (hT : TT w)
  (c8 : ∀ W, TT W → Calls Tryz.prog 5 #[] W fun r w' => r = .returned (.bool true) ∧ Below W.heap.size W w')
variable (n : Int) (Bp : Nat)
include hTT hT c8
variable (An : Nat)
set_option maxHeartbeats 2000000 in
theorem tx17_n (c15 : ∀ W, Calls Tryz.prog 6 #[.int .i64 n, A4 Bp] W fun r w' => r = .returned (.bool false) ∧ Below W.heap.size W w') :
    Calls Tryz.prog 3 #[.int .i64 n, A4 Bp] w fun r w' => r = .returned (.bool true) ∧ Below w.heap.size w w' := by
  have hsm := cell_set_map
  unfold A4 at *
  go_enter Tryz.func3, Tryz.ntmps3
  go_wp2_with (first
    | (have := hA1; go_at_call 5; refine (c8 _ (hTT _ _ hT bgo)).mono ?_; rintro r w3 ⟨rfl, hb3⟩; obtain ⟨hc3, hf3⟩ := bcell hb3; have hz3_0 : w.heap.size < w3.heap.size := lt_below hb3 ltg; have hl3_0 := Nat.le_of_lt hz3_0; have hA3 := bnext (w0 := w) bgo hb3; have hs3 := hA3.size; clear hb3)
    | (go_at_call 5; refine (c8 _ (hTT _ _ hT bgo)).mono ?_; rintro r w1 ⟨rfl, hb1⟩; obtain ⟨hc1, hf1⟩ := bcell hb1; have hz1_0 : w.heap.size < w1.heap.size := lt_below hb1 ltg; have hl1_0 := Nat.le_of_lt hz1_0; have hA1 := bnext (w0 := w) bgo hb1; have hs1 := hA1.size; clear hb1)
    | (go_at_call 6; refine (c15 _).mono ?_; rintro r w2 ⟨rfl, hb2⟩; obtain ⟨hc2, hf2⟩ := bcell hb2; have hz2_0 : w.heap.size < w2.heap.size := lt_below hb2 ltg; have hl2_0 := Nat.le_of_lt hz2_0; have hA2 := bnext (w0 := w) bgo hb2; have hs2 := hA2.size; clear hb2))
  go_ret
  exact ⟨by first | rfl | simp, bgo⟩
set_option maxHeartbeats 4000000 in
theorem tx17_k (t : Int) (C : Nat) (T : ByteArray) (c15 : ∀ W, Calls Tryz.prog 6 #[.int .i64 n, A4 Bp] W fun r w' => r = .returned (.bool true) ∧ Below W.heap.size W w')
    (c9 : ∀ W, TT W → Calls Tryz.prog 7 #[.int .i64 n] W fun r w' => r = .returned (.tuple #[.int .i64 t, .int .i64 0]) ∧ Below W.heap.size W w')
    (c11 : ∀ W, TT W → Calls Tryz.prog 8 #[.int .i64 n, A4 Bp] W fun r w' => r = .returned (.tuple #[A4 C, .int .i64 0]) ∧ Below W.heap.size W w')
    (c12 : ∀ W, TT W → Calls Tryz.prog 9 #[.int .i64 n, A4 Bp] W fun r w' => r = .returned (.tuple #[.string T, .int .i64 0]) ∧ Below W.heap.size W w')
    (c13 : ∀ W, TT W → Calls Tryz.prog 9 #[.int .i64 t, A4 C] W fun r w' => r = .returned (.tuple #[.string T, .int .i64 0]) ∧ Below W.heap.size W w') :
    Calls Tryz.prog 3 #[.int .i64 n, A4 Bp] w fun r w' => r = .returned (.bool true) ∧ Below w.heap.size w w' := by
  have hsm := cell_set_map
  unfold A4 at *
  go_enter Tryz.func3, Tryz.ntmps3
  go_wp2_with (first
    | (go_at_call 5; refine (c8 _ (hTT _ _ hT bgo)).mono ?_; rintro r w1 ⟨rfl, hb1⟩; obtain ⟨hc1, hf1⟩ := bcell hb1; have hz1_0 : w.heap.size < w1.heap.size := lt_below hb1 ltg; have hl1_0 := Nat.le_of_lt hz1_0; have hA1 := bnext (w0 := w) bgo hb1; have hs1 := hA1.size; clear hb1)
    | (go_at_call 6; refine (c15 _).mono ?_; rintro r w2 ⟨rfl, hb2⟩; obtain ⟨hc2, hf2⟩ := bcell hb2; have hz2_0 : w.heap.size < w2.heap.size := lt_below hb2 ltg; have hl2_0 := Nat.le_of_lt hz2_0; have hA2 := bnext (w0 := w) bgo hb2; have hs2 := hA2.size; clear hb2)
    | (go_at_call 7; refine (c9 _ (hTT _ _ hT bgo)).mono ?_; rintro r w3 ⟨rfl, hb3⟩; obtain ⟨hc3, hf3⟩ := bcell hb3; have hz3_0 : w.heap.size < w3.heap.size := lt_below hb3 ltg; have hl3_0 := Nat.le_of_lt hz3_0; have hA3 := bnext (w0 := w) bgo hb3; have hs3 := hA3.size; clear hb3)
    | (go_at_call 8; refine (c11 _ (hTT _ _ hT bgo)).mono ?_; rintro r w4 ⟨rfl, hb4⟩; obtain ⟨hc4, hf4⟩ := bcell hb4; have hz4_0 : w.heap.size < w4.heap.size := lt_below hb4 ltg; have hl4_0 := Nat.le_of_lt hz4_0; have hA4 := bnext (w0 := w) bgo hb4; have hs4 := hA4.size; clear hb4)
    | (have := hA5; go_at_call 9; refine (c13 _ (hTT _ _ hT bgo)).mono ?_; rintro r w6 ⟨rfl, hb6⟩; obtain ⟨hc6, hf6⟩ := bcell hb6; have hz6_0 : w.heap.size < w6.heap.size := lt_below hb6 ltg; have hl6_0 := Nat.le_of_lt hz6_0; have hz6_1 : w4.heap.size < w6.heap.size := lt_below hb6 ltg; have hl6_1 := Nat.le_of_lt hz6_1; have hA6 := bnext (w0 := w) bgo hb6; have hs6 := hA6.size; clear hb6)
    | (go_at_call 9; refine (c12 _ (hTT _ _ hT bgo)).mono ?_; rintro r w5 ⟨rfl, hb5⟩; obtain ⟨hc5, hf5⟩ := bcell hb5; have hz5_0 : w.heap.size < w5.heap.size := lt_below hb5 ltg; have hl5_0 := Nat.le_of_lt hz5_0; have hz5_1 : w4.heap.size < w5.heap.size := lt_below hb5 ltg; have hl5_1 := Nat.le_of_lt hz5_1; have hA5 := bnext (w0 := w) bgo hb5; have hs5 := hA5.size; clear hb5))
  go_ret
  exact ⟨by first | rfl | simp, bgo⟩
variable (d : Int) (bs : ByteArray)
set_option maxHeartbeats 2000000 in
theorem rd17_l (hl : (5000 : Int) < (bs.size : Int)) :
    Calls Tryz.prog 4 #[.int .i64 n, .int .i64 d, .string bs] w fun r w' => r = .returned (.bool true) ∧ Below w.heap.size w w' := by
  have hsm := cell_set_map
  go_enter Tryz.func4, Tryz.ntmps4
  go_wp2_with (first
    | (have := hA1; go_at_call 5; refine (c8 _ (hTT _ _ hT bgo)).mono ?_; rintro r w3 ⟨rfl, hb3⟩; obtain ⟨hc3, hf3⟩ := bcell hb3; have hA3 := bnext (w0 := w) bgo hb3; have hs3 := hA3.size; clear hb3)
    | (go_at_call 5; refine (c8 _ (hTT _ _ hT bgo)).mono ?_; rintro r w1 ⟨rfl, hb1⟩; obtain ⟨hc1, hf1⟩ := bcell hb1; have hA1 := bnext (w0 := w) bgo hb1; have hs1 := hA1.size; clear hb1))
  go_ret
  exact ⟨by first | rfl | simp, bgo⟩
variable (hl : ¬ (5000 : Int) < (bs.size : Int))
include hl
set_option maxHeartbeats 2000000 in
theorem rd17_n (t E : Int) (hE : (E != 0) = true)
    (c9 : ∀ W, TT W → Calls Tryz.prog 7 #[.int .i64 n] W fun r w' => r = .returned (.tuple #[.int .i64 t, .int .i64 E]) ∧ Below W.heap.size W w') :
    Calls Tryz.prog 4 #[.int .i64 n, .int .i64 d, .string bs] w fun r w' => r = .returned (.bool true) ∧ Below w.heap.size w w' := by
  have hsm := cell_set_map
  go_enter Tryz.func4, Tryz.ntmps4
  go_wp2_with (first
    | (go_at_call 5; refine (c8 _ (hTT _ _ hT bgo)).mono ?_; rintro r w1 ⟨rfl, hb1⟩; obtain ⟨hc1, hf1⟩ := bcell hb1; have hA1 := bnext (w0 := w) bgo hb1; have hs1 := hA1.size; clear hb1)
    | (go_at_call 7; refine (c9 _ (hTT _ _ hT bgo)).mono ?_; rintro r w2 ⟨rfl, hb2⟩; obtain ⟨hc2, hf2⟩ := bcell hb2; have hA2 := bnext (w0 := w) bgo hb2; have hs2 := hA2.size; clear hb2))
  go_ret
  exact ⟨by first | rfl | simp, bgo⟩
variable (t : Int) (htn : (t == n) = false) (R R' : Nat) (F F' G : Int)
  (c9 : ∀ W, TT W → Calls Tryz.prog 7 #[.int .i64 n] W fun r w' => r = .returned (.tuple #[.int .i64 t, .int .i64 0]) ∧ Below W.heap.size W w')
  (c12 : ∀ W, TT W → Calls Tryz.prog 10 #[.int .i64 n, .int .i64 d, .string bs] W fun r w' => r = .returned (.tuple #[A4 R, .int .i64 F, .int .i64 G]) ∧ Below W.heap.size W w')
  (c13 : ∀ W, TT W → Calls Tryz.prog 10 #[.int .i64 t, .int .i64 d, .string bs] W fun r w' => r = .returned (.tuple #[A4 R', .int .i64 F', .int .i64 G]) ∧ Below W.heap.size W w')
include htn c9 c12 c13
set_option maxHeartbeats 4000000 in
theorem rd17_e (hG : (G != 0) = true) :
    Calls Tryz.prog 4 #[.int .i64 n, .int .i64 d, .string bs] w fun r w' => r = .returned (.bool true) ∧ Below w.heap.size w w' := by
  have hsm := cell_set_map
  unfold A4 at *
  go_enter Tryz.func4, Tryz.ntmps4
  go_wp2_with (first
    | (go_at_call 5; refine (c8 _ (hTT _ _ hT bgo)).mono ?_; rintro r w1 ⟨rfl, hb1⟩; obtain ⟨hc1, hf1⟩ := bcell hb1; have hA1 := bnext (w0 := w) bgo hb1; have hs1 := hA1.size; clear hb1)
    | (go_at_call 7; refine (c9 _ (hTT _ _ hT bgo)).mono ?_; rintro r w2 ⟨rfl, hb2⟩; obtain ⟨hc2, hf2⟩ := bcell hb2; have hA2 := bnext (w0 := w) bgo hb2; have hs2 := hA2.size; clear hb2)
    | (have := hA5; go_at_call 10; refine (c13 _ (hTT _ _ hT bgo)).mono ?_; rintro r w6 ⟨rfl, hb6⟩; obtain ⟨hc6, hf6⟩ := bcell hb6; have hz6_0 : w5.heap.size < w6.heap.size := lt_below hb6 ltg; have hl6_0 := Nat.le_of_lt hz6_0; have hA6 := bnext (w0 := w) bgo hb6; have hs6 := hA6.size; clear hb6)
    | (go_at_call 10; refine (c12 _ (hTT _ _ hT bgo)).mono ?_; rintro r w5 ⟨rfl, hb5⟩; obtain ⟨hc5, hf5⟩ := bcell hb5; have hA5 := bnext (w0 := w) bgo hb5; have hs5 := hA5.size; clear hb5))
  go_ret
  exact ⟨by first | rfl | simp, bgo⟩
set_option maxHeartbeats 4000000 in
theorem rd17_k (hG : G = 0) (hF : F' = F) (c11 : ∀ W, TT W → Calls Tryz.prog 8 #[.int .i64 n, A4 R] W fun r w' => r = .returned (.tuple #[A4 R', .int .i64 0]) ∧ Below W.heap.size W w') :
    Calls Tryz.prog 4 #[.int .i64 n, .int .i64 d, .string bs] w fun r w' => r = .returned (.bool true) ∧ Below w.heap.size w w' := by
  subst hG hF
  have hsm := cell_set_map
  have e1 := eq24 (W4 R' 0) (W4 R' 1) (W4 R' 2) (W4 R' 3) (W4 R' 0) (W4 R' 1) (W4 R' 2) (W4 R' 3)
  rw [decide_eq_true ⟨rfl, rfl, rfl, rfl⟩] at e1
  unfold A4 at *
  go_enter Tryz.func4, Tryz.ntmps4
  go_wp2_with (first
    | (go_at_call 5; refine (c8 _ (hTT _ _ hT bgo)).mono ?_; rintro r w1 ⟨rfl, hb1⟩; obtain ⟨hc1, hf1⟩ := bcell hb1; have hA1 := bnext (w0 := w) bgo hb1; have hs1 := hA1.size; clear hb1)
    | (go_at_call 7; refine (c9 _ (hTT _ _ hT bgo)).mono ?_; rintro r w2 ⟨rfl, hb2⟩; obtain ⟨hc2, hf2⟩ := bcell hb2; have hA2 := bnext (w0 := w) bgo hb2; have hs2 := hA2.size; clear hb2)
    | (have := hA5; go_at_call 10; refine (c13 _ (hTT _ _ hT bgo)).mono ?_; rintro r w6 ⟨rfl, hb6⟩; obtain ⟨hc6, hf6⟩ := bcell hb6; have hz6_0 : w5.heap.size < w6.heap.size := lt_below hb6 ltg; have hl6_0 := Nat.le_of_lt hz6_0; have hA6 := bnext (w0 := w) bgo hb6; have hs6 := hA6.size; clear hb6)
    | (go_at_call 10; refine (c12 _ (hTT _ _ hT bgo)).mono ?_; rintro r w5 ⟨rfl, hb5⟩; obtain ⟨hc5, hf5⟩ := bcell hb5; have hA5 := bnext (w0 := w) bgo hb5; have hs5 := hA5.size; clear hb5)
    | (go_at_call 8; refine (c11 _ (hTT _ _ hT bgo)).mono ?_; rintro r w7 ⟨rfl, hb7⟩; obtain ⟨hc7, hf7⟩ := bcell hb7; have hz7_0 : w5.heap.size < w7.heap.size := lt_below hb7 ltg; have hl7_0 := Nat.le_of_lt hz7_0; have hz7_1 : w6.heap.size < w7.heap.size := lt_below hb7 ltg; have hl7_1 := Nat.le_of_lt hz7_1; have hA7 := bnext (w0 := w) bgo hb7; have hs7 := hA7.size; clear hb7))
  go_ret
  exact ⟨by first | rfl | simp, bgo⟩
end
theorem tw_ne {n : Int} (h : decN n) : (twN n == n) = false := by
  rcases dec_cases h with rfl | rfl | rfl | rfl | rfl | rfl <;> rfl
section
variable {TT : World → Prop} (h : TrcC TT) (n : Int) (Bp : Nat) (w : World) (hT : TT w) (hB : Bp < 2 ^ 256)
include h hT hB
theorem texts17_v (hW : DtxC TT) : Calls Tryz.prog 3 #[.int .i64 n, A4 Bp] w fun r w' => r = .returned (.bool true) ∧ Below w.heap.size w w' := by
  have c8 := fun W hW => awake17 h W hW
  have c15 := fun W => rgood14 n Bp hB W
  by_cases hg : goodD n Bp
  · rw [decide_eq_true hg] at c15
    obtain ⟨g1, g2, g3⟩ := tc_good hg
    have c9 := fun W hW => h.tw n W hW
    have c11 := fun W hW => h.cd n Bp W hB hW
    have c12 := fun W hT => hW.wr n Bp W hB hT
    have c13 := fun W hT => hW.wr (twN n) (tcV n Bp) W g3 hT
    rw [show vUE n Bp = 0 from if_pos hg] at c11 c12
    rw [show twV n = twN n from if_pos hg.1, show twE n = 0 from if_pos hg.1] at c9
    rw [show vUE (twN n) (tcV n Bp) = 0 from if_pos g1, show dwT (twN n) (tcV n Bp) = xtT (vM (fD (twN n)) (tcV n Bp)) from if_pos g1, g2] at c13
    rw [show dwT n Bp = xtT (vM (fD n) Bp) from if_pos hg] at c12
    exact tx17_k TT h.next w hT c8 n Bp _ _ _ c15 c9 c11 c12 c13
  · rw [decide_eq_false hg] at c15
    exact tx17_n TT h.next w hT c8 n Bp c15
end
theorem reads17_v {TT : World → Prop} (h : TrcC TT) (hR : DtxR TT) (n d : Int) (l : List UInt8) (w : World) (hT : TT w) : Calls Tryz.prog 4 #[.int .i64 n, .int .i64 d, .string (B l)] w fun r w' => r = .returned (.bool true) ∧ Below w.heap.size w w' := by
  have c8 := fun W hW => awake17 h W hW
  have s1 := B_size l
  by_cases hl : (5000 : Int) < ((B l).size : Int)
  · exact rd17_l TT h.next w hT c8 n d (B l) hl
  · have c9 := fun W hW => h.tw n W hW
    by_cases hn : decN n
    · have c12 := fun W hW => hR.rd n d l W (by omega) hW
      have c13 := fun W hW => hR.rd (twN n) d l W (by omega) hW
      rw [show twV n = twN n from if_pos hn, show twE n = 0 from if_pos hn] at c9
      rw [krE_tw hn, krF_tw hn] at c13
      by_cases h0 : krE n d l = 0
      · obtain ⟨q1, q2⟩ := kr_tw hn d l h0
        have c11 := fun W hW => h.cd n (krV n d l) W (kr_256 n d l) hW
        rw [show vUE n (krV n d l) = 0 from if_pos q1, q2] at c11
        exact rd17_k TT h.next w hT c8 n d (B l) hl _ (tw_ne hn) _ _ _ _ _ c9 c12 c13 h0 rfl c11
      · exact rd17_e TT h.next w hT c8 n d (B l) hl _ (tw_ne hn) _ _ _ _ _ c9 c12 c13 (by simpa using h0)
    · rw [show twE n = 1 from if_neg hn] at c9
      exact rd17_n TT h.next w hT c8 n d (B l) hl _ 1 (by decide) c9
end
section
attribute [local irreducible] W4 Nt NT
section
variable {a : Act} {w : World} {K : Act → World → Prop} {Q : Exit → Act → World → Prop} {d p q : Nat} {ty : TypeId} {pos : String} {after : Array Edge} {gd : Option (Nat × Bool)}
theorem opg_f1 {g : Nat} (h1 : slot a p = .pointer (some ⟨g, 0, none⟩)) (hK : K (a.put (some d) (.pointer (some ⟨g, 1, none⟩))) w) : Oper.wp Tryz.prog { dst := some d, op := Op.fieldAddr 52 (Operand.tmp p) 1, type := ty, pos := pos, after := after, guard := gd } a w K Q := by
  unfold slot at h1
  simp [go_sem, h1]
  exact hK
theorem opg_f3 {g : Nat} (h1 : slot a p = .pointer (some ⟨g, 0, none⟩)) (hK : K (a.put (some d) (.pointer (some ⟨g, 3, none⟩))) w) : Oper.wp Tryz.prog { dst := some d, op := Op.fieldAddr 52 (Operand.tmp p) 3, type := ty, pos := pos, after := after, guard := gd } a w K Q := by
  unfold slot at h1
  simp [go_sem, h1]
  exact hK
theorem opg_f4 {g : Nat} (h1 : slot a p = .pointer (some ⟨g, 0, none⟩)) (hK : K (a.put (some d) (.pointer (some ⟨g, 4, none⟩))) w) : Oper.wp Tryz.prog { dst := some d, op := Op.fieldAddr 52 (Operand.tmp p) 4, type := ty, pos := pos, after := after, guard := gd } a w K Q := by
  unfold slot at h1
  simp [go_sem, h1]
  exact hK
theorem opi_f0 {g : Nat} (h1 : slot a p = .pointer (some ⟨g, 0, none⟩)) (hK : K (a.put (some d) (.pointer (some ⟨g, 0, none⟩))) w) : Oper.wp Tryz.prog { dst := some d, op := Op.fieldAddr 48 (Operand.tmp p) 0, type := ty, pos := pos, after := after, guard := gd } a w K Q := by
  unfold slot at h1
  simp [go_sem, h1]
  exact hK
theorem opg_l9 {g i : Nat} {v : Value} (h1 : slot a p = .pointer (some ⟨g, i, none⟩)) (h2 : w.cell? ⟨g, i, none⟩ = some v) (hK : K (a.put (some d) v) w) : Oper.wp Tryz.prog { dst := some d, op := Op.load 9 (Operand.tmp p), type := ty, pos := pos, after := after, guard := gd } a w K Q := by
  unfold slot at h1
  simp [go_sem, h1, h2]
  exact hK
theorem og_c5 {F : Nat} {p0 p1 p2 p3 p4 : Nat} {u0 u1 u2 u3 u4 : Value} {ts : Array TypeId} (hr : Sem.run Tryz.prog (callFunc F #[u0, u1, u2, u3, u4]) w = .ok (.enter F #[u0, u1, u2, u3, u4]) w) (h0 : slot a p0 = u0) (h1 : slot a p1 = u1) (h2 : slot a p2 = u2) (h3 : slot a p3 = u3) (h4 : slot a p4 = u4) (hc : Calls Tryz.prog F #[u0, u1, u2, u3, u4] w fun e w' => ∃ v, e = .returned v ∧ K (a.put (some d) v) w') : Oper.wp Tryz.prog { dst := some d, op := Op.call { callee := Callee.value (Operand.func F), args := #[Operand.tmp p0, Operand.tmp p1, Operand.tmp p2, Operand.tmp p3, Operand.tmp p4], argTypes := ts }, type := ty, pos := pos, after := after, guard := gd } a w K Q := by
  unfold slot at h0 h1 h2 h3 h4
  simp [go_sem, h0, h1, h2, h3, h4, hr]
  refine hc.mono ?_
  rintro e w' ⟨v, rfl, hK⟩
  exact hK
end
noncomputable def opsDt2 : List Oper := (Tryz.f39.body.bind (findR 2)).getD []
def slotsDt2 : List Nat := [16, 17, 18, 19, 20, 21, 22, 23, 24, 25, 26, 15, 27, 28, 29, 8, 51, 9]
def slotsADt2 : List Nat := [16, 17, 18, 19, 20, 21, 22, 23, 24, 25, 26, 15, 27, 28, 29, 8, 51, 9, 10]
/-- what stands while the statement is under way -/
def KDt2 (ws : World) (N : Nat) (cv : Array Value) (L : Nat → Prop) (f : Nat → Value) (w : World) : Prop :=
  Below ws.heap.size ws w ∧ (L 7 → L 10 ∨ Nt 2001 N (f 23) w) ∧ (L 15 → ∃ g cs, f 8 = .pointer (some ⟨g, 0, none⟩) ∧ ws.heap.size ≤ g ∧ D8 g cs w ∧ (L 16 → cs = cv))
theorem KDt2.step {ws w : World} {N : Nat} {cv : Array Value} {k t : Nat} {L : Nat → Prop} {f : Nat → Value} {v : Value} (h : KDt2 ws N cv L f w) (h1 : t ≠ 23) (h2 : t ≠ 8) (h3 : k ≠ 7) (h4 : k ≠ 15) (h5 : k ≠ 16) (h6 : k ≠ 10) : KDt2 ws N cv (fun j => L j ∨ j = k) (fun u => if some t = some u then v else f u) w := by
  obtain ⟨a1, a2, a3⟩ := h
  have e23 : (if some t = some 23 then v else f 23) = f 23 := if_neg (fun e => h1 (Option.some.inj e))
  have e8 : (if some t = some 8 then v else f 8) = f 8 := if_neg (fun e => h2 (Option.some.inj e))
  refine ⟨a1, fun h => ?_, fun h => ?_⟩
  · rcases a2 (h.resolve_right (fun e => h3 e.symm)) with q | q
    · exact Or.inl (Or.inl q)
    · right; show Nt 2001 N (if some t = some 23 then v else f 23) w; rw [e23]; exact q
  · obtain ⟨g, cs, b1, b2, b3, b4⟩ := a3 (h.resolve_right (fun e => h4 e.symm))
    exact ⟨g, cs, e8.trans b1, b2, b3, fun h => b4 (h.resolve_right (fun e => h5 e.symm))⟩
set_option maxHeartbeats 4000000 in
theorem regDt2 {g3 g5 N vk : Nat} {n d ux vc vx F Er : Int} {us vs vg : Bool} {bs : ByteArray} {a0 : Act} {ws : World} {Q : Exit → Act → World → Prop} (hs : a0.tmps.size = 52) (hTW : Tab ws)
    (g1 : slot a0 1 = .int .i64 d) (gg3 : slot a0 3 = .pointer (some ⟨g3, 0, none⟩)) (gg5 : slot a0 5 = .pointer (some ⟨g5, 0, none⟩)) (hlt3 : g3 < ws.heap.size) (hlt : g5 < ws.heap.size)
    (q0 : ws.cell? ⟨g3, 0, none⟩ = some (.int .i64 n)) (q1 : ws.cell? ⟨g5, 1, none⟩ = some (.bool us)) (q3 : ws.cell? ⟨g5, 3, none⟩ = some (.string bs)) (q4 : ws.cell? ⟨g5, 4, none⟩ = some (.int .i64 ux))
    (cN : ∀ W, Calls Tryz.prog 71 #[.string bs] W fun r w' => ∃ v, r = .returned v ∧ Nt 2001 N v w' ∧ Below W.heap.size W w')
    (cD : ∀ W v, Tab W → Nt 2001 N v W → Calls Tryz.prog 70 #[.int .i64 n, .int .i64 d, .bool us, v, .int .i64 ux] W fun r w' => r = .returned (.tuple #[DV vc vs vg vx vk, .int .i64 F, .int .i64 Er]) ∧ Below W.heap.size W w')
    (hQ : ∀ (a : Act) (w : World) (g : Nat), slot a 8 = .pointer (some ⟨g, 0, none⟩) → slot a 9 = .int .i64 F → slot a 10 = .int .i64 Er → ws.heap.size ≤ g → D8 g (dvc vc vs vg vx vk) w → a.tmps.size = 52 → a.defers = a0.defers → (∀ t, (∀ i, i < 19 → slotsADt2.getD i 0 ≠ t) → slot a t = slot a0 t) → Below ws.heap.size ws w → Q .normal a w) :
    (Code.region 2 opsDt2.toArray true).wp Tryz.prog Q a0 ws := by
  refine wp_region_memg 18 52 slotsDt2 [iW (.pointer (some ⟨g3, 0, none⟩)), iW (.int .i64 n), iW (.int .i64 d), iW (.pointer (some ⟨g5, 1, none⟩)), iW (.bool us), iW (.pointer (some ⟨g5, 3, none⟩)), iW (.string bs), (fun _ _ => True), iW (.pointer (some ⟨g5, 4, none⟩)), iW (.int .i64 ux), iW (.tuple #[DV vc vs vg vx vk, .int .i64 F, .int .i64 Er]), iW (.tuple #[DV vc vs vg vx vk, .int .i64 F, .int .i64 Er]), iW (DV vc vs vg vx vk), iW (.int .i64 F), iW (.int .i64 Er), (fun _ _ => True), (fun _ _ => True), iW (.int .i64 F)] (fun _ _ => True) (KDt2 ws N (dvc vc vs vg vx vk)) [] [] (by kernel_rfl) (by kernel_rfl) (by kernel_rfl) (by kernel_rfl) hs ?_ (fun _ => trivial) ?_ ?_ ⟨(Below.refl _ _).drew, fun h => h.elim, fun h => h.elim⟩ ?_ ?_ ?_
  · intro j c hj hc
    cases hc
  · intro p hp
    simp only [List.mem_cons, List.not_mem_nil, or_false] at hp
    rcases hp with rfl | rfl | rfl | rfl | rfl | rfl | rfl | rfl | rfl | rfl | rfl | rfl | rfl | rfl | rfl | rfl | rfl | rfl
    all_goals exact fun _ _ _ h _ => h
  · intro i hi hG
    cases hG
  · intro L i o a w hi ho hG
    cases hG
  · intro L i o a w hi ho hG hL hcl he hM hF hv
    have f1 : slot a 1 = .int .i64 d := (hF 1 (by decide)).trans g1
    have f3 : slot a 3 = .pointer (some ⟨g3, 0, none⟩) := (hF 3 (by decide)).trans gg3
    have f5 : slot a 5 = .pointer (some ⟨g5, 0, none⟩) := (hF 5 (by decide)).trans gg5
    have hB := hM.1
    have k0 : w.cell? ⟨g3, 0, none⟩ = some (.int .i64 n) := (hB.cell (p := ⟨g3, 0, none⟩) hlt3).trans q0
    have k1 : w.cell? ⟨g5, 1, none⟩ = some (.bool us) := (hB.cell (p := ⟨g5, 1, none⟩) hlt).trans q1
    have k3 : w.cell? ⟨g5, 3, none⟩ = some (.string bs) := (hB.cell (p := ⟨g5, 3, none⟩) hlt).trans q3
    have k4 : w.cell? ⟨g5, 4, none⟩ = some (.int .i64 ux) := (hB.cell (p := ⟨g5, 4, none⟩) hlt).trans q4
    have hor : i = 0 ∨ i = 1 ∨ i = 2 ∨ i = 3 ∨ i = 4 ∨ i = 5 ∨ i = 6 ∨ i = 7 ∨ i = 8 ∨ i = 9 ∨ i = 10 ∨ i = 11 ∨ i = 12 ∨ i = 13 ∨ i = 14 ∨ i = 15 ∨ i = 16 ∨ i = 17 := by omega
    rcases hor with rfl | rfl | rfl | rfl | rfl | rfl | rfl | rfl | rfl | rfl | rfl | rfl | rfl | rfl | rfl | rfl | rfl | rfl
    · obtain rfl := Option.some.inj (show opsDt2[0]? = some o from ho)
      exact opi_f0 f3 ⟨_, rfl, rfl, trivial, hM.step (by decide) (by decide) (by decide) (by decide) (by decide) (by decide)⟩
    · obtain rfl := Option.some.inj (show opsDt2[1]? = some o from ho)
      exact og_ld3 (hv 0 (by decide) rfl (he ⟨0, .data⟩ (by simp) rfl) : slot a 16 = .pointer (some ⟨g3, 0, none⟩)) k0 ⟨_, rfl, rfl, trivial, hM.step (by decide) (by decide) (by decide) (by decide) (by decide) (by decide)⟩
    · obtain rfl := Option.some.inj (show opsDt2[2]? = some o from ho)
      exact og_mv f1 ⟨_, rfl, rfl, trivial, hM.step (by decide) (by decide) (by decide) (by decide) (by decide) (by decide)⟩
    · obtain rfl := Option.some.inj (show opsDt2[3]? = some o from ho)
      exact opg_f1 f5 ⟨_, rfl, rfl, trivial, hM.step (by decide) (by decide) (by decide) (by decide) (by decide) (by decide)⟩
    · obtain rfl := Option.some.inj (show opsDt2[4]? = some o from ho)
      exact od_ld4 (hv 3 (by decide) rfl (he ⟨3, .data⟩ (by simp) rfl) : slot a 19 = .pointer (some ⟨g5, 1, none⟩)) k1 ⟨_, rfl, rfl, trivial, hM.step (by decide) (by decide) (by decide) (by decide) (by decide) (by decide)⟩
    · obtain rfl := Option.some.inj (show opsDt2[5]? = some o from ho)
      exact opg_f3 f5 ⟨_, rfl, rfl, trivial, hM.step (by decide) (by decide) (by decide) (by decide) (by decide) (by decide)⟩
    · obtain rfl := Option.some.inj (show opsDt2[6]? = some o from ho)
      exact opg_l9 (hv 5 (by decide) rfl (he ⟨5, .data⟩ (by simp) rfl) : slot a 21 = .pointer (some ⟨g5, 3, none⟩)) k3 ⟨_, rfl, rfl, trivial, hM.step (by decide) (by decide) (by decide) (by decide) (by decide) (by decide)⟩
    · obtain rfl := Option.some.inj (show opsDt2[7]? = some o from ho)
      obtain ⟨a1, a2, a3⟩ := hM
      refine og_c1 (by simp [go_sem]) (hv 6 (by decide) rfl (he ⟨6, .data⟩ (by simp) rfl) : slot a 22 = .string bs) ((cN w).mono ?_)
      rintro e w' ⟨v, rfl, hNv, hb⟩
      refine ⟨v, rfl, _, rfl, trivial, trivial, bnx hB hb, fun _ => Or.inr hNv, fun h15 => ?_⟩
      obtain ⟨g, cs, b1, b2, b3, b4⟩ := a3 (h15.resolve_right (by decide))
      exact ⟨g, cs, b1, b2, b3.next hb, fun h => b4 (h.resolve_right (by decide))⟩
    · obtain rfl := Option.some.inj (show opsDt2[8]? = some o from ho)
      exact opg_f4 f5 ⟨_, rfl, rfl, trivial, hM.step (by decide) (by decide) (by decide) (by decide) (by decide) (by decide)⟩
    · obtain rfl := Option.some.inj (show opsDt2[9]? = some o from ho)
      exact og_ld3 (hv 8 (by decide) rfl (he ⟨8, .data⟩ (by simp) rfl) : slot a 24 = .pointer (some ⟨g5, 4, none⟩)) k4 ⟨_, rfl, rfl, trivial, hM.step (by decide) (by decide) (by decide) (by decide) (by decide) (by decide)⟩
    · obtain rfl := Option.some.inj (show opsDt2[10]? = some o from ho)
      obtain ⟨a1, a2, a3⟩ := hM
      have l7 := he ⟨7, .data⟩ (by simp) rfl
      have h1 : Nt 2001 N (slot a 23) w := (a2 l7).resolve_left hL
      refine og_c5 (by simp [go_sem]) (hv 1 (by decide) rfl (he ⟨1, .data⟩ (by simp) rfl) : slot a 17 = .int .i64 n) (hv 2 (by decide) rfl (he ⟨2, .data⟩ (by simp) rfl) : slot a 18 = .int .i64 d) (hv 4 (by decide) rfl (he ⟨4, .data⟩ (by simp) rfl) : slot a 20 = .bool us) rfl (hv 9 (by decide) rfl (he ⟨9, .data⟩ (by simp) rfl) : slot a 25 = .int .i64 ux) ((cD w _ (hTW.go hB) h1).mono ?_)
      rintro e w' ⟨rfl, hb⟩
      refine ⟨_, rfl, _, rfl, rfl, trivial, bnx hB hb, fun _ => Or.inl (Or.inr rfl), fun h15 => ?_⟩
      obtain ⟨g, cs, b1, b2, b3, b4⟩ := a3 (h15.resolve_right (by decide))
      exact ⟨g, cs, b1, b2, b3.next hb, fun h => b4 (h.resolve_right (by decide))⟩
    · obtain rfl := Option.some.inj (show opsDt2[11]? = some o from ho)
      exact og_mv (hv 10 (by decide) rfl (he ⟨10, .data⟩ (by simp) rfl) : slot a 26 = .tuple #[DV vc vs vg vx vk, .int .i64 F, .int .i64 Er]) ⟨_, rfl, rfl, trivial, hM.step (by decide) (by decide) (by decide) (by decide) (by decide) (by decide)⟩
    · obtain rfl := Option.some.inj (show opsDt2[12]? = some o from ho)
      exact og_ext (hv 11 (by decide) rfl (he ⟨11, .data⟩ (by simp) rfl) : slot a 15 = .tuple #[DV vc vs vg vx vk, .int .i64 F, .int .i64 Er]) rfl ⟨_, rfl, rfl, trivial, hM.step (by decide) (by decide) (by decide) (by decide) (by decide) (by decide)⟩
    · obtain rfl := Option.some.inj (show opsDt2[13]? = some o from ho)
      exact og_ext (hv 11 (by decide) rfl (he ⟨11, .data⟩ (by simp) rfl) : slot a 15 = .tuple #[DV vc vs vg vx vk, .int .i64 F, .int .i64 Er]) rfl ⟨_, rfl, rfl, trivial, hM.step (by decide) (by decide) (by decide) (by decide) (by decide) (by decide)⟩
    · obtain rfl := Option.some.inj (show opsDt2[14]? = some o from ho)
      exact og_ext (hv 11 (by decide) rfl (he ⟨11, .data⟩ (by simp) rfl) : slot a 15 = .tuple #[DV vc vs vg vx vk, .int .i64 F, .int .i64 Er]) rfl ⟨_, rfl, rfl, trivial, hM.step (by decide) (by decide) (by decide) (by decide) (by decide) (by decide)⟩
    · have hL16 : ¬ L 16 := fun h => hL (hcl 16 _ (show opsDt2[16]? = some _ from rfl) h ⟨15, .data⟩ (by simp) rfl)
      obtain rfl := Option.some.inj (show opsDt2[15]? = some o from ho)
      have hb := below1 w (.cells zd 39)
      obtain ⟨a1, a2, a3⟩ := hM
      refine od_alc ⟨_, rfl, trivial, trivial, bnx hB hb, fun h6 => ?_, fun _ => ⟨_, zd, rfl, hB.size, D8.new w, fun h => absurd (h.resolve_right (by decide)) hL16⟩⟩
      rcases a2 (h6.resolve_right (by decide)) with q | q
      · exact Or.inl (Or.inl q)
      · exact Or.inr (q.next hb)
    · obtain rfl := Option.some.inj (show opsDt2[16]? = some o from ho)
      obtain ⟨a1, a2, a3⟩ := hM
      have l15 := he ⟨15, .data⟩ (by simp) rfl
      have l12 := he ⟨12, .data⟩ (by simp) rfl
      have l11 := hcl 12 _ (show opsDt2[12]? = some _ from rfl) l12 ⟨11, .data⟩ (by simp) rfl
      have l10 := hcl 11 _ (show opsDt2[11]? = some _ from rfl) l11 ⟨10, .data⟩ (by simp) rfl
      obtain ⟨g, cs, b1, b2, b3, b4⟩ := a3 l15
      exact od_st b1 (hv 12 (by decide) rfl l12 : slot a 27 = DV vc vs vg vx vk) b3 ⟨.bool false, rfl, trivial, trivial, below_cellsD b2 _ _ _ hB, fun _ => Or.inl (Or.inl l10), fun _ => ⟨g, _, b1, b2, b3.put rfl, fun _ => rfl⟩⟩
    · obtain rfl := Option.some.inj (show opsDt2[17]? = some o from ho)
      exact og_as (hv 13 (by decide) rfl (he ⟨13, .data⟩ (by simp) rfl) : slot a 28 = .int .i64 F) ⟨_, rfl, rfl, trivial, hM.step (by decide) (by decide) (by decide) (by decide) (by decide) (by decide)⟩
  · intro L a w hL hM hsz hdf hF hv
    obtain ⟨hB, a2, a3⟩ := hM
    obtain ⟨g, cs, e14, hg, hD, hc⟩ := a3 (hL 15 (by decide))
    obtain rfl := hc (hL 16 (by decide))
    have h15 : slot a 9 = .int .i64 F := hv 17 (by decide) rfl
    have h68 : slot a 29 = .int .i64 Er := hv 14 (by decide) rfl
    refine BigFrame.wpList_want rfl fun K hK => og_as h68 (hK _ _ ?_)
    clear K hK
    refine hQ _ _ g ?_ ?_ (slot_put (by omega)) hg hD (by simp only [put_sizeV]; exact hsz) hdf (fun t ht => ?_) hB
    · rw [slot_put_ne (by decide)]; exact e14
    · rw [slot_put_ne (by decide)]; exact h15
    · rw [slot_put_ne (show 10 ≠ t from ht 18 (by decide))]
      exact hF t fun i hi => by
        have hor : i = 0 ∨ i = 1 ∨ i = 2 ∨ i = 3 ∨ i = 4 ∨ i = 5 ∨ i = 6 ∨ i = 7 ∨ i = 8 ∨ i = 9 ∨ i = 10 ∨ i = 11 ∨ i = 12 ∨ i = 13 ∨ i = 14 ∨ i = 15 ∨ i = 16 ∨ i = 17 := by omega
        rcases hor with rfl | rfl | rfl | rfl | rfl | rfl | rfl | rfl | rfl | rfl | rfl | rfl | rfl | rfl | rfl | rfl | rfl | rfl
        · exact ht 0 (by decide)
        · exact ht 1 (by decide)
        · exact ht 2 (by decide)
        · exact ht 3 (by decide)
        · exact ht 4 (by decide)
        · exact ht 5 (by decide)
        · exact ht 6 (by decide)
        · exact ht 7 (by decide)
        · exact ht 8 (by decide)
        · exact ht 9 (by decide)
        · exact ht 10 (by decide)
        · exact ht 11 (by decide)
        · exact ht 12 (by decide)
        · exact ht 13 (by decide)
        · exact ht 14 (by decide)
        · exact ht 15 (by decide)
        · exact ht 16 (by decide)
        · exact ht 17 (by decide)
end
end Go.Proofs.YtehgnckgmdkfmaaGreatDoor
