/-
  Texts that the proof leans on, joined: Xd, Xe, Sa, Sc, Kh.
-/
import Derived.Test.YtplocajjfoiklaaGreatDoorR40
import Derived.Test.YtplocajjfoiklaaGreatDoorR43
import Derived.Test.YtplocajjfoiklaaGreatDoorR1
import Derived.Test.YtplocajjfoiklaaGreatDoorR36
import Derived.Test.YtplocajjfoiklaaGreatDoorR39
set_option maxHeartbeats 8000000
set_option linter.unusedVariables false
set_option linter.unusedSectionVars false
set_option linter.unusedSimpArgs false
set_option maxRecDepth 20000
namespace Go.Proofs.YtplocajjfoiklaaGreatDoor
open Go.RowKit
section
theorem NT.tight {K K' V : Nat} {v : Value} {w : World} (h : NT K V v w) (hb : bl V ≤ 64 * K') : NT K' V v w := by
 obtain ⟨g, k, cap, z, h1, h2, h3, h4, h5⟩ := h
 exact ⟨g, k, cap, z, h1, by have := (size_bl (m := K') h3.2.2.1 h4).2 hb; omega, h3, h4, h5⟩
section
variable (x : Int) (vn vd : Value) (A KK : Nat) (w : World) (hx : -12000 ≤ x ∧ x ≤ 12000)
include hx
end
theorem number_nil (w : World) : Calls Tryz.prog 98 #[.string (B [])] w fun r w' => ∃ v, r = .returned v ∧ NT 1001 0 v w' ∧ Below w.heap.size w w' := by
 have hs : (B []).size = 0 := rfl
 have hN := num_empty w
 go_enter Tryz.func98, Tryz.ntmps98
 go_wp2
 go_loopw [3, 4, 5, 6] (fun t3 t4 u5 u6 wr => t3 = .slice (some ⟨w.heap.size, 0, none⟩) 0 0 ∧ t4 = .int .i64 0 ∧ wr = w.alloc (.cells #[] 22)) (fun _ _ _ _ _ => 0)
 case atStart => exact ⟨rfl, rfl, rfl⟩
 case round =>
  obtain ⟨rfl, rfl, rfl⟩ := hrel
  go_wp2
  go_ret
  exact ⟨_, rfl, ⟨_, 0, 0, fun _ => 0, rfl, by decide, hN, rfl, rfl⟩, below1 _ _⟩
theorem number8 (l : List UInt8) (w : World) (hd : l.all dg = true) (hl : l.length ≤ 4000) : Calls Tryz.prog 98 #[.string (B l)] w fun r w' => ∃ v, r = .returned v ∧ NT 1001 (dV l) v w' ∧ Below w.heap.size w w' := by
 by_cases h0 : l = []
 ·subst h0
  exact number_nil w
 ·have hlen : 0 < l.length := List.length_pos_iff.2 h0
  obtain ⟨hlt, he⟩ := dV_lt hd
  have hbl : bl (dV l) ≤ 64 * 1001 := bl_10 hlt (by omega)
  have c := number_any (B l) w (by unfold isDigB; rw [dig_B hd, Bool.true_and]; exact decide_eq_true (by rw [B_size]; exact hlen)) (by rw [B_size]; omega)
  refine c.mono fun r w' ⟨g, k, cap, z, e1, hk, hN, hv, hB, hs⟩ => ⟨_, e1, ?_, hB⟩
  have h36 : NT 36000 (dV l) (.slice (some ⟨g, 0, none⟩) k cap) w' := ⟨g, k, cap, z, rfl, hk, hN, by rw [hv, he], hs⟩
  exact h36.tight hbl
attribute [local irreducible] W4 NT NV
section
variable (c : Int) (s g : Bool) (d : List UInt8) (x : Int) (A M f : Nat) (vp : Value) (w : World)
 (c38 : ∀ W, Calls Tryz.prog 98 #[.string (B d)] W fun r w' => ∃ v, r = .returned v ∧ NT 1001 A v w' ∧ Below W.heap.size W w')
include c38
theorem rpay_ge (sv : Int) (h : 0 ≤ sv) (hg : g = false)
  (c78 : ∀ W v, Below w.heap.size w W → NT 1001 A v W → Calls Tryz.prog 154 #[v, vp] W fun r w' => r = .returned (.int .i64 sv) ∧ W = w') (c27 : ∀ W, Calls Tryz.prog 60 #[.slice none 0 0] W fun r w' => r = .returned (A4 0) ∧ Below W.heap.size W w') :
  Calls Tryz.prog 97 #[PV c s g d x, vp] w fun r w' => r = .returned (A4 0) ∧ Below w.heap.size w w' := by
 subst hg
 have hsm := cell_set_map
 unfold PV
 go_enter Tryz.func97, Tryz.ntmps97
 go_wp2_with (first
  | (go_at_call 98; refine (c38 _).mono ?_; rintro r w1 ⟨v1, rfl, hv1, hb1⟩; obtain ⟨hc1, hf1, hz1_0, hl1_0, hA1, hs1⟩ := wz w hb1 w.heap.size; obtain ⟨hz1_1, hl1_1⟩ := zf hb1 (w.heap.size + 1); clear hb1)
  | (go_at_call 154; refine (c78 _ _ bgo hv1).mono ?_; rintro r w2 ⟨rfl, rfl⟩)
  | (go_at_call 60; refine (c27 _).mono ?_; rintro r w3 ⟨rfl, hb3⟩; obtain ⟨hc3, hf3, hz3_0, hl3_0, hA3, hs3⟩ := wz w hb3 w.heap.size; obtain ⟨hz3_1, hl3_1⟩ := zf hb3 (w.heap.size + 1); clear hb3))
 exact bodyPost_ret (v := A4 0) (by simp only [results, Tryz.results97]; go_simp) rfl ⟨rfl, bgo⟩
theorem rpay_ge1 (sv : Int) (h : 0 ≤ sv) (hg : g = true)
  (c78 : ∀ W v, Below w.heap.size w W → NT 1001 A v W → Calls Tryz.prog 154 #[v, vp] W fun r w' => r = .returned (.int .i64 sv) ∧ W = w') (c27 : ∀ W v, NV 1 1 v W → Calls Tryz.prog 60 #[v] W fun r w' => r = .returned (A4 1) ∧ Below W.heap.size W w') :
  Calls Tryz.prog 97 #[PV c s g d x, vp] w fun r w' => r = .returned (A4 1) ∧ Below w.heap.size w w' := by
 subst hg
 have hsm := cell_set_map
 unfold PV
 go_enter Tryz.func97, Tryz.ntmps97
 go_wp2_with (first
  | (go_at_call 98; refine (c38 _).mono ?_; rintro r w1 ⟨v1, rfl, hv1, hb1⟩; obtain ⟨hc1, hf1, hz1_0, hl1_0, hA1, hs1⟩ := wz w hb1 w.heap.size; obtain ⟨hz1_1, hl1_1⟩ := zf hb1 (w.heap.size + 1); clear hb1)
  | (go_at_call 154; refine (c78 _ _ bgo hv1).mono ?_; rintro r w2 ⟨rfl, rfl⟩)
  | (go_at_call 60; refine (c27 _ _ (nv_uno (by simp) rfl (by decide))).mono ?_; rintro r w3 ⟨rfl, hb3⟩; obtain ⟨hc3, hf3, hz3_0, hl3_0, hA3, hs3⟩ := wz w hb3 w.heap.size; obtain ⟨hz3_1, hl3_1⟩ := zf hb3 (w.heap.size + 1); clear hb3))
 exact bodyPost_ret (v := A4 1) (by simp only [results, Tryz.results97]; go_simp) rfl ⟨rfl, bgo⟩
end
theorem rpay_lt (c : Int) (s g : Bool) (d : List UInt8) (x : Int) (A : Nat) (gv kv cv : Nat) (vp : Value) (w w1 : World) (sv : Int) (h : ¬ 0 ≤ sv) (hz : g = true → ((kv : Int) == 0) = false)
  (c38 : ∀ W, Calls Tryz.prog 98 #[.string (B d)] W fun r w' => ∃ gv kv cv, r = .returned (.slice (some ⟨gv, 0, none⟩) kv cv) ∧ (g = true → ((kv : Int) == 0) = false) ∧ NT 1001 A (.slice (some ⟨gv, 0, none⟩) kv cv) w' ∧ Below W.heap.size W w')
  (c78 : ∀ W v, Below w.heap.size w W → NT 1001 A v W → Calls Tryz.prog 154 #[v, vp] W fun r w' => r = .returned (.int .i64 sv) ∧ W = w') (c27 : ∀ W v, NT 1001 A v W → Calls Tryz.prog 60 #[v] W fun r w' => r = .returned (A4 A) ∧ Below W.heap.size W w') :
  Calls Tryz.prog 97 #[PV c s g d x, vp] w fun r w' => r = .returned (A4 A) ∧ Below w.heap.size w w' := by
 have hsm := cell_set_map
 unfold PV
 cases g with
 | false =>
  go_enter Tryz.func97, Tryz.ntmps97
  go_wp2_with (first
   | (go_at_call 98; refine (c38 _).mono ?_; rintro r w1 ⟨gv, kv, cv, rfl, hk, hv1, hb1⟩; obtain ⟨hc1, hf1, hz1_0, hl1_0, hA1, hs1⟩ := wz w hb1 w.heap.size; obtain ⟨hz1_1, hl1_1⟩ := zf hb1 (w.heap.size + 1); clear hb1)
   | (go_at_call 154; refine (c78 _ _ bgo hv1).mono ?_; rintro r w2 ⟨rfl, rfl⟩)
   | (go_at_call 60; refine (c27 _ _ hv1).mono ?_; rintro r w3 ⟨rfl, hb3⟩; obtain ⟨hc3, hf3, hz3_0, hl3_0, hA3, hs3⟩ := wz w hb3 w.heap.size; obtain ⟨hz3_1, hl3_1⟩ := zf hb3 (w.heap.size + 1); clear hb3))
  exact bodyPost_ret (v := A4 A) (by simp only [results, Tryz.results97]; go_simp) rfl ⟨rfl, bgo⟩
 | true =>
  go_enter Tryz.func97, Tryz.ntmps97
  go_wp2_with (first
   | (go_at_call 98; refine (c38 _).mono ?_; rintro r w1 ⟨gv, kv, cv, rfl, hk, hv1, hb1⟩; have hk' := hk rfl; obtain ⟨hc1, hf1, hz1_0, hl1_0, hA1, hs1⟩ := wz w hb1 w.heap.size; obtain ⟨hz1_1, hl1_1⟩ := zf hb1 (w.heap.size + 1); clear hb1)
   | (go_at_call 154; refine (c78 _ _ bgo hv1).mono ?_; rintro r w2 ⟨rfl, rfl⟩)
   | (go_at_call 60; refine (c27 _ _ hv1).mono ?_; rintro r w3 ⟨rfl, hb3⟩; obtain ⟨hc3, hf3, hz3_0, hl3_0, hA3, hs3⟩ := wz w hb3 w.heap.size; obtain ⟨hz3_1, hl3_1⟩ := zf hb3 (w.heap.size + 1); clear hb3))
  exact bodyPost_ret (v := A4 A) (by simp only [results, Tryz.results97]; go_simp) rfl ⟨rfl, bgo⟩
theorem rpay_z (c : Int) (s : Bool) (d : List UInt8) (x : Int) (vp : Value) (w : World) (sv : Int) (h : ¬ 0 ≤ sv)
  (c38 : ∀ W, Calls Tryz.prog 98 #[.string (B d)] W fun r w' => ∃ gv cv, r = .returned (.slice (some ⟨gv, 0, none⟩) 0 cv) ∧ NT 1001 0 (.slice (some ⟨gv, 0, none⟩) 0 cv) w' ∧ Below W.heap.size W w')
  (c78 : ∀ W v, Below w.heap.size w W → NT 1001 0 v W → Calls Tryz.prog 154 #[v, vp] W fun r w' => r = .returned (.int .i64 sv) ∧ W = w') (c27 : ∀ W v, NV 1 1 v W → Calls Tryz.prog 60 #[v] W fun r w' => r = .returned (A4 1) ∧ Below W.heap.size W w') :
  Calls Tryz.prog 97 #[PV c s true d x, vp] w fun r w' => r = .returned (A4 1) ∧ Below w.heap.size w w' := by
 have hsm := cell_set_map
 unfold PV
 go_enter Tryz.func97, Tryz.ntmps97
 go_wp2_with (first
  | (go_at_call 98; refine (c38 _).mono ?_; rintro r w1 ⟨gv, cv, rfl, hv1, hb1⟩; obtain ⟨hc1, hf1, hz1_0, hl1_0, hA1, hs1⟩ := wz w hb1 w.heap.size; obtain ⟨hz1_1, hl1_1⟩ := zf hb1 (w.heap.size + 1); clear hb1)
  | (go_at_call 154; refine (c78 _ _ bgo hv1).mono ?_; rintro r w2 ⟨rfl, rfl⟩)
  | (go_at_call 60; refine (c27 _ _ (nv_uno (by simp) rfl (by decide))).mono ?_; rintro r w3 ⟨rfl, hb3⟩; obtain ⟨hc3, hf3, hz3_0, hl3_0, hA3, hs3⟩ := wz w hb3 w.heap.size; obtain ⟨hz3_1, hl3_1⟩ := zf hb3 (w.heap.size + 1); clear hb3))
 exact bodyPost_ret (v := A4 1) (by simp only [results, Tryz.results97]; go_simp) rfl ⟨rfl, bgo⟩
theorem bits_opt (a : Option Addr) (k cap : Nat) (z : Nat → Int) (w : World) (h : Num w a k cap z) :
  Calls Tryz.prog 60 #[.slice a k cap] w fun e w' => e = .returned (.agg (arrOf z 4)) ∧ Below w.heap.size w w' := by
 have hw := fun (i : Nat) (o1 o2 : Obj) => word_any a k cap i z ((w.alloc o1).alloc o2) ((h.next (below1 w _)).next (below1 _ _))
 clear h
 go_enter Tryz.func60, Tryz.ntmps60
 go_wp2
 go_loopw [4, 5] (fun u4 i wr => ∃ (j : Nat) (ss : Array Value), j ≤ 4 ∧ i = .int .i64 j ∧ ss.size = 4 ∧ (∀ q h, ss[q]'h = Value.int .u64 (if q < j then z q else 0)) ∧ wr = (w.alloc (.cells #[.int .u64 0, .int .u64 0, .int .u64 0, .int .u64 0] 24)).alloc (.cells ss 24)) (fun _ i _ => 4 - (intOf i).toNat)
 case atStart => exact ⟨0, _, Nat.zero_le _, rfl, rfl, by intro q h; have h' : q < 4 := h; match q, h' with | 0, _ => rfl | 1, _ => rfl | 2, _ => rfl | 3, _ => rfl, rfl⟩
 case round =>
  obtain ⟨j, ss, hj, rfl, hsz, hss, rfl⟩ := hrel
  by_cases h4 : j < 4
  ·have h4i : (j : Int) < 4 := by omega
   have h4s : j < ss.size := by omega
   have hsk : ss[j]? = some (.int .u64 0) := by rw [Array.getElem?_eq_getElem h4s, hss j h4s, if_neg (by omega)]
   have HR : Hid (∀ (i : Nat) (h : i < (ss.setIfInBounds j (.int .u64 (z j))).size), (ss.setIfInBounds j (.int .u64 (z j)))[i]'h = Value.int .u64 (if i < j + 1 then z i else 0)) := set_next hss
   have hwj := hw j (.cells #[.int .u64 0, .int .u64 0, .int .u64 0, .int .u64 0] 24) (.cells ss 24)
   clear hss hw
   go_wp2_with (go_at_call 68; refine hwj.mono ?_; rintro e w' ⟨rfl, rfl⟩)
   go_roundw
   case rel => exact ⟨j + 1, ss.setIfInBounds j (.int .u64 (z j)), by omega, by go_num, by simp [hsz], HR.out, rfl⟩
   case measure => simp [intOf]; omega
  ·obtain rfl : j = 4 := by omega
   have hss' : ∀ q h, ss[q]'h = Value.int .u64 (z q) := by
    intro q h; rw [hss q h, if_pos (by omega)]
   clear hss hw
   go_wp2
   exact bodyPost_ret (v := .agg (arrOf z 4)) (by simp [results, Tryz.results60, go_sem]; rfl) rfl ⟨rfl, ((Below.refl _ _).alloc (Nat.le_refl _) _).alloc (by simp) _⟩
theorem bits_nil (w : World) : Calls Tryz.prog 60 #[.slice none 0 0] w fun r w' => r = .returned (A4 0) ∧ Below w.heap.size w w' := by
 have h : Num w none 0 0 (fun _ => 0) := ⟨Nat.le_refl _, by unfold maxLen; omega, fun i => ⟨Int.le_refl _, (by decide : (0 : Int) ≤ 18446744073709551615)⟩, fun _ _ => rfl, Or.inl ⟨rfl, rfl⟩⟩
 rw [A4_zero]
 exact bits_opt none 0 0 (fun _ => 0) w h
theorem rpayload8 (c : Int) (s g : Bool) (d : List UInt8) (x : Int) (f K : Nat) (vp : Value) (w : World) (hK : K < 1000000) (hf : f ≤ 240 ∧ 1 ≤ f) (hd : d.all dg = true) (hl : d.length ≤ 4000) (hp : NV K (2 ^ (f - 1)) vp w) :
  Calls Tryz.prog 97 #[PV c s g d x, vp] w fun r w' => r = .returned (A4 (plV f g (dV d))) ∧ Below w.heap.size w w' := by
 have c38 := fun W => number8 d W hd hl
 have c78 : ∀ W v, Below w.heap.size w W → NT 1001 (dV d) v W → Calls Tryz.prog 154 #[v, vp] W fun r w' => r = .returned (.int .i64 (sgn (dV d : Int) ((2 ^ (f - 1) : Nat) : Int))) ∧ W = w' := fun W v hW hv => rcmp_nv (by decide) hK hv.nv (hp.next hW)
 have c27 : ∀ W v, NV 1 1 v W → Calls Tryz.prog 60 #[v] W fun r w' => r = .returned (A4 1) ∧ Below W.heap.size W w' := fun W v hv => bits_nv hv
 have hsw := sgn_ways (dV d : Int) ((2 ^ (f - 1) : Nat) : Int)
 have hcmp : ((f : Int) - 1 < (bl (dV d) : Int)) ↔ 2 ^ (f - 1) ≤ dV d := by
  rw [← bl_ge]; omega
 generalize dV d = A at *
 by_cases hov : 2 ^ (f - 1) ≤ A
 ·have hA : plA f A = 0 := if_pos (hcmp.2 hov)
  have hs : 0 ≤ sgn (A : Int) ((2 ^ (f - 1) : Nat) : Int) := by
   rcases hsw with ⟨a, e⟩ | ⟨a, e⟩ | ⟨a, e⟩
   ·omega
   ·omega
   ·omega
  cases g
  ·have e : plV f false A = 0 := by unfold plV; rw [hA]; rfl
   rw [e]
   exact rpay_ge c s false d x A vp w c38 _ hs rfl c78 (fun W => bits_nil W)
  ·have e : plV f true A = 1 := if_pos ⟨rfl, hA⟩
   rw [e]
   exact rpay_ge1 c s true d x A vp w c38 _ hs rfl c78 c27
 ·have hA : plA f A = A := if_neg (fun h => hov (hcmp.1 h))
  have hs : ¬ 0 ≤ sgn (A : Int) ((2 ^ (f - 1) : Nat) : Int) := by
   rcases hsw with ⟨a, e⟩ | ⟨a, e⟩ | ⟨a, e⟩
   ·omega
   ·omega
   ·omega
  by_cases hz : g = true ∧ A = 0
  ·obtain ⟨rfl, rfl⟩ := hz
   have e : plV f true 0 = 1 := if_pos ⟨rfl, hA⟩
   rw [e]
   refine rpay_z c s d x vp w _ hs (fun W => (c38 W).mono fun r w' ⟨v, e1, e2, e3⟩ => ?_) c78 c27
   obtain ⟨gv, kv, cv, rfl, _, hzz⟩ := e2.zero
   obtain rfl := hzz.2 rfl
   exact ⟨gv, cv, e1, e2, e3⟩
  ·have e : plV f g A = A := by unfold plV; rw [hA, if_neg hz]
   rw [e]
   refine rpay_lt c s g d x A 0 1 0 vp w w _ hs (fun _ => rfl) (fun W => (c38 W).mono fun r w' ⟨v, e1, e2, e3⟩ => ?_) c78 (fun W v hv => bits_nv hv.nv)
   obtain ⟨gv, kv, cv, rfl, _, hzz⟩ := e2.zero
   refine ⟨gv, kv, cv, e1, fun hg => ?_, e2, e3⟩
   rw [beq_eq_false_iff_ne]
   intro h
   exact hz ⟨hg, hzz.1 (by omega)⟩
end
section
attribute [local irreducible] W4 NT NV
section
variable (n d : Int) (c : Int) (s g : Bool) (l : List UInt8) (x : Int) (nm : ByteArray) (wd : Int) (f e : Nat) (lo m : Int) (w : World)
variable (c22 : ∀ W, Calls Tryz.prog 14 #[.int .i64 n] W fun r w' => r = .returned (.bool true) ∧ W = w')
include c22
variable (c15 : ∀ W, Calls Tryz.prog 15 #[.int .i64 d] W fun r w' => r = .returned (.bool true) ∧ W = w')
include c15
variable (c35 : ∀ W, Below w.heap.size w W → Calls Tryz.prog 95 #[PV c s g l x] W fun r w' => r = .returned (.bool true) ∧ Below W.heap.size W w')
 (c25 : ∀ W, Calls Tryz.prog 58 #[.int .i64 n] W fun r w' => r = .returned (.tuple #[IV n nm wd f e lo m, .int .i64 0]) ∧ Below W.heap.size W w')
include c35 c25
theorem rmk_2 (hc : c = 2) (R : Nat) (E : Int) (c36 : ∀ W, Calls Tryz.prog 96 #[.int .i64 n, .agg #[.int .i64 2, .bool s, .bool false, .int .i64 0, .int .u64 0, .int .u64 0, .int .u64 0, .int .u64 0]] W fun r w' => r = .returned (.tuple #[A4 R, .int .i64 E]) ∧ Below W.heap.size W w') :
  Calls Tryz.prog 41 #[.int .i64 n, .int .i64 d, PV c s g l x] w fun r w' => r = .returned (.tuple #[A4 R, .int .i64 0, .int .i64 0]) ∧ Below w.heap.size w w' := by
 subst hc
 have hsm := cell_set_map
 unfold PV at *
 go_enter Tryz.func41, Tryz.ntmps41
 go_wp2_with (first
  | (go_at_call 14; refine (c22 _).mono ?_; rintro r w1 ⟨rfl, rfl⟩)
  | (go_at_call 15; refine (c15 _).mono ?_; rintro r w1 ⟨rfl, rfl⟩)
  | (go_at_call 95; refine (c35 _ bgo).mono ?_; rintro r w2 ⟨rfl, hb2⟩; obtain ⟨hc2, hf2, hz2_0, hl2_0, hA2, hs2⟩ := wz w hb2 w.heap.size; obtain ⟨hz2_1, hl2_1⟩ := zf hb2 (w.heap.size + 1); clear hb2)
  | (go_at_call 58; refine (c25 _).mono ?_; rintro r w3 ⟨rfl, hb3⟩; obtain ⟨hc3, hf3, hz3_0, hl3_0, hA3, hs3⟩ := wz w hb3 w.heap.size; obtain ⟨hz3_1, hl3_1⟩ := zf hb3 (w.heap.size + 1); clear hb3)
  | (go_at_call 96; refine (c36 _).mono ?_; rintro r w4 ⟨rfl, hb4⟩; obtain ⟨hc4, hf4, hz4_0, hl4_0, hA4, hs4⟩ := wz w hb4 w.heap.size; obtain ⟨hz4_1, hl4_1⟩ := zf hb4 (w.heap.size + 1); obtain ⟨hz4_2, hl4_2⟩ := zf hb4 w3.heap.size; clear hb4))
 exact bodyPost_ret (v := .tuple #[A4 R, .int .i64 0, .int .i64 0]) (by simp only [results, Tryz.results41]; go_simp) rfl ⟨rfl, bgo⟩
end
end
section
def wiN (c : Bool) (a b : Nat) : Bool := decide (a < b) || (decide (a = b) && c)
def rsN (R Z : Nat) : Nat → Nat
 | 0 => R
 | k + 1 => 10 * (rsN R Z k % Z)
def unK (c : Bool) (R d Z k : Nat) : Bool := wiN c (rsN R Z k % Z) (10 ^ k * d)
def ovK (c : Bool) (R u Z k : Nat) : Bool := wiN c (Z - rsN R Z k % Z) (10 ^ k * u)
def stK (c : Bool) (R d u Z k : Nat) : Bool := unK c R d Z k || ovK c R u Z k
section
variable {c : Bool} {R d u Z : Nat} (hZ : 0 < Z)
include hZ
theorem un_big {k : Nat} (h : Z ≤ 10 ^ k * d) : stK c R d u Z k = true := by
 unfold stK unK wiN
 have := Nat.mod_lt (rsN R Z k) hZ
 have : rsN R Z k % Z < 10 ^ k * d := by omega
 simp [this]
theorem st_ex (hd : 0 < d) : ∃ K, stK c R d u Z K = true ∧ ∀ k, k < K → stK c R d u Z k = false := by
 have h1 : ∃ K, stK c R d u Z K = true := ⟨Z, un_big hZ (by
  have h1 : Z < 10 ^ Z := Nat.lt_pow_self (by decide)
  have h2 : 10 ^ Z * 1 ≤ 10 ^ Z * d := Nat.mul_le_mul_left _ hd
  omega)⟩
 obtain ⟨K, hK⟩ := h1
 induction K using Nat.strongRecOn with
 | ind K ih =>
  by_cases h : ∃ k, k < K ∧ stK c R d u Z k = true
  ·obtain ⟨k, h1, h2⟩ := h
   exact ih k h1 h2
  ·refine ⟨K, hK, fun k hk => ?_⟩
   cases hh : stK c R d u Z k
   ·rfl
   ·exact absurd ⟨k, hk, hh⟩ h
end
def zE (x e : Int) : Nat := 4 * 2 ^ (-x).toNat * 10 ^ e.toNat
def oE (x e : Int) : Nat := 2 ^ x.toNat * 10 ^ (-e).toNat
theorem zE_pos (x e : Int) : 0 < zE x e := Nat.mul_pos (Nat.mul_pos (by decide) (Nat.two_pow_pos _)) (Nat.pow_pos (by decide))
theorem oE_pos (x e : Int) : 0 < oE x e := Nat.mul_pos (Nat.two_pow_pos _) (Nat.pow_pos (by decide))
def tnP (c : Nat) (x e : Int) : Prop := zE x e ≤ 4 * c * oE x e
theorem ten_le_two {t p : Nat} (h : 196 * t ≤ 59 * p) : 10 ^ t ≤ 2 ^ p := by
 rcases Nat.lt_or_ge (2 ^ p) (10 ^ t) with h1 | h1
 ·exfalso
  have h2 : (2 ^ p) ^ 59 < (10 ^ t) ^ 59 := Nat.pow_lt_pow_left h1 (by decide)
  have h3 : (10 ^ 59) ^ t ≤ (2 ^ 196) ^ t := Nat.pow_le_pow_left (by decide) t
  have h4 : 2 ^ (196 * t) ≤ 2 ^ (59 * p) := Nat.pow_le_pow_right (by decide) h
  have e1 : ((2 : Nat) ^ p) ^ 59 = 2 ^ (59 * p) := by rw [← Nat.pow_mul, Nat.mul_comm]
  have e2 : ((10 : Nat) ^ t) ^ 59 = (10 ^ 59) ^ t := by rw [← Nat.pow_mul, ← Nat.pow_mul, Nat.mul_comm]
  have e3 : ((2 : Nat) ^ 196) ^ t = 2 ^ (196 * t) := by rw [← Nat.pow_mul]
  rw [e1, e2] at h2
  rw [e3] at h3
  omega
 ·exact h1
theorem big_ten : (2 : Nat) ^ 100000 ≤ 10 ^ 30103 := by decide +kernel
theorem two_le_ten_n {n m t q : Nat} (hn : n ≠ 0) (hb : (2 : Nat) ^ n ≤ 10 ^ m) (h : m * q ≤ n * t) : 2 ^ q ≤ 10 ^ t := by
 rcases Nat.lt_or_ge (10 ^ t) (2 ^ q) with h1 | h1
 ·exfalso
  have h2 : (10 ^ t) ^ n < (2 ^ q) ^ n := Nat.pow_lt_pow_left h1 hn
  have h3 : (2 ^ n) ^ q ≤ (10 ^ m) ^ q := Nat.pow_le_pow_left hb q
  have h4 : 10 ^ (m * q) ≤ 10 ^ (n * t) := Nat.pow_le_pow_right (by decide) h
  have e1 : ((10 : Nat) ^ t) ^ n = 10 ^ (n * t) := by rw [← Nat.pow_mul, Nat.mul_comm]
  have e2 : ((2 : Nat) ^ q) ^ n = (2 ^ n) ^ q := by rw [← Nat.pow_mul, ← Nat.pow_mul, Nat.mul_comm]
  have e3 : ((10 : Nat) ^ m) ^ q = 10 ^ (m * q) := by rw [← Nat.pow_mul]
  rw [e1, e2] at h2
  rw [e3] at h3
  omega
 ·exact h1
theorem two_le_ten {t q : Nat} (h : 30103 * q ≤ 100000 * t) : 2 ^ q ≤ 10 ^ t := two_le_ten_n (by decide) big_ten h
theorem guess_ok {c L : Nat} {x : Int} (hL : 2 ^ L ≤ c) (hb : -20000 ≤ (L : Int) + x ∧ (L : Int) + x ≤ 20000) : tnP c x ((((L : Int) + x) * 30103).tdiv 100000 - 1) := by
 have hq : (((L : Int) + x) * 30103).tdiv 100000 = if 0 ≤ (L : Int) + x then (((L : Int) + x) * 30103) / 100000 else -((-((L : Int) + x) * 30103) / 100000) := by
  split
  ·rw [Int.tdiv_eq_ediv_of_nonneg (by omega)]
  ·rw [show ((L : Int) + x) * 30103 = -(-((L : Int) + x) * 30103) by omega, Int.neg_tdiv, Int.tdiv_eq_ediv_of_nonneg (by omega)]
 generalize hg : (((L : Int) + x) * 30103).tdiv 100000 - 1 = g at *
 unfold tnP zE oE
 rw [Nat.mul_assoc 4, Nat.mul_assoc 4]
 refine Nat.mul_le_mul_left 4 ?_
 by_cases hg0 : 0 ≤ g
 ·have hp : 0 ≤ (L : Int) + x := by
   rcases Int.lt_or_le ((L : Int) + x) 0 with h | h
   ·rw [if_neg (by omega)] at hq; omega
   ·exact h
  rw [if_pos hp] at hq
  have h1 : 10 ^ g.toNat ≤ 2 ^ ((L : Int) + x).toNat := ten_le_two (by omega)
  rw [show (-g).toNat = 0 by omega, Nat.pow_zero, Nat.mul_one]
  by_cases hx : 0 ≤ x
  ·rw [show (-x).toNat = 0 by omega, Nat.pow_zero, Nat.one_mul]
   rw [show ((L : Int) + x).toNat = L + x.toNat by omega, Nat.pow_add] at h1
   exact Nat.le_trans h1 (Nat.mul_le_mul_right _ hL)
  ·rw [show x.toNat = 0 by omega, Nat.pow_zero, Nat.mul_one]
   have h2 := Nat.mul_le_mul_left (2 ^ (-x).toNat) h1
   rw [← Nat.pow_add, show (-x).toNat + ((L : Int) + x).toNat = L by omega] at h2
   exact Nat.le_trans h2 hL
 ·rw [show g.toNat = 0 by omega, Nat.pow_zero, Nat.mul_one]
  by_cases hp : 0 ≤ (L : Int) + x
  ·have h1 : 2 ^ (-x).toNat ≤ c * 2 ^ x.toNat := by
    by_cases hx : 0 ≤ x
    ·rw [show (-x).toNat = 0 by omega, Nat.pow_zero]
     have := Nat.two_pow_pos L
     exact Nat.mul_pos (by omega) (Nat.two_pow_pos _)
    ·rw [show x.toNat = 0 by omega, Nat.pow_zero, Nat.mul_one]
     exact Nat.le_trans (Nat.pow_le_pow_right (by decide) (by omega)) hL
   rw [← Nat.mul_assoc]
   exact Nat.le_trans h1 (Nat.le_mul_of_pos_right _ (Nat.pow_pos (by decide)))
  ·rw [if_neg hp] at hq
   have h1 : 2 ^ (-((L : Int) + x)).toNat ≤ 10 ^ (-g).toNat := two_le_ten (by omega)
   rw [show x.toNat = 0 by omega, Nat.pow_zero, Nat.one_mul]
   rw [show (-x).toNat = L + (-((L : Int) + x)).toNat by omega, Nat.pow_add]
   exact Nat.mul_le_mul hL h1
end
section
theorem NT.nz {K V : Nat} {v : Value} {w : World} (h : NT K V v w) : Nz K V v w := by
 obtain ⟨g, k, cap, z, h1, h2, h3, h4, h5⟩ := h
 exact ⟨_, k, cap, z, h1, h2, h3, h4, h5⟩
theorem NT.nt {K V : Nat} {v : Value} {w : World} (h : NT K V v w) : Nt K V v w := h.nz.nt
theorem nt_un1 {W : World} {g V : Nat} {vi : Int} (hg : g = W.heap.size) (hv : vi = (V : Int)) (hb : V < 18446744073709551616) (h0 : V ≠ 0) : NT 1 V (.slice (some ⟨g, 0, none⟩) 1 1) (W.alloc (.cells #[.int .u64 vi] 22)) := by
 subst hg hv
 refine ⟨_, 1, 1, oneW V, rfl, Nat.le_refl _, num_one W V (by omega), val_one1 V, ?_⟩
 have : oneW (V : Int) 0 ≠ 0 := by simp [oneW]; omega
 simp [sizeL, this]
attribute [local irreducible] W4 Nz Nt NT
def gsP (k : Nat) (x : Int) : Int := (((bl k : Int) - 1 + x) * 30103).tdiv 100000 - 1
end
section
attribute [local irreducible] W4 NT NV Nt NO
section
variable (n d : Int) (l : List UInt8) (w : World)
theorem hr_n (c11 : ∀ W, Calls Tryz.prog 14 #[.int .i64 n] W fun r w' => r = .returned (.bool false) ∧ W = w') :
  Calls Tryz.prog 12 #[.int .i64 n, .int .i64 d, .string (B l)] w fun r w' => r = .returned (.tuple #[Z4, .int .i64 0, .int .i64 1]) ∧ Below w.heap.size w w' := by
 have hsm := cell_set_map
 go_enter Tryz.func12, Tryz.ntmps12
 go_wp2_with (go_at_call 14; refine (c11 _).mono ?_; rintro r w1 ⟨rfl, rfl⟩)
 exact bodyPost_ret (v := .tuple #[Z4, .int .i64 0, .int .i64 1]) (by simp only [results, Tryz.results12]; go_simp) rfl ⟨rfl, bgo⟩
variable (c11 : ∀ W, Calls Tryz.prog 14 #[.int .i64 n] W fun r w' => r = .returned (.bool true) ∧ W = w')
include c11
theorem hr_d (c12 : ∀ W, Calls Tryz.prog 15 #[.int .i64 d] W fun r w' => r = .returned (.bool false) ∧ W = w') :
  Calls Tryz.prog 12 #[.int .i64 n, .int .i64 d, .string (B l)] w fun r w' => r = .returned (.tuple #[Z4, .int .i64 0, .int .i64 1]) ∧ Below w.heap.size w w' := by
 have hsm := cell_set_map
 go_enter Tryz.func12, Tryz.ntmps12
 go_wp2_with (first
  | (go_at_call 14; refine (c11 _).mono ?_; rintro r w1 ⟨rfl, rfl⟩)
  | (go_at_call 15; refine (c12 _).mono ?_; rintro r w1 ⟨rfl, rfl⟩))
 exact bodyPost_ret (v := .tuple #[Z4, .int .i64 0, .int .i64 1]) (by simp only [results, Tryz.results12]; go_simp) rfl ⟨rfl, bgo⟩
variable (c12 : ∀ W, Calls Tryz.prog 15 #[.int .i64 d] W fun r w' => r = .returned (.bool true) ∧ W = w')
include c12
theorem hr_l (hl : (4000 : Int) < l.length) (hl2 : (l.length : Int) ≤ 100000) :
  Calls Tryz.prog 12 #[.int .i64 n, .int .i64 d, .string (B l)] w fun r w' => r = .returned (.tuple #[Z4, .int .i64 0, .int .i64 4]) ∧ Below w.heap.size w w' := by
 have hsm := cell_set_map
 have zl : (B l).size = l.length := B_size l
 go_enter Tryz.func12, Tryz.ntmps12
 go_wp2_with (first
  | (go_at_call 14; refine (c11 _).mono ?_; rintro r w1 ⟨rfl, rfl⟩)
  | (go_at_call 15; refine (c12 _).mono ?_; rintro r w1 ⟨rfl, rfl⟩))
 exact bodyPost_ret (v := .tuple #[Z4, .int .i64 0, .int .i64 4]) (by simp only [results, Tryz.results12]; go_simp) rfl ⟨rfl, bgo⟩
variable (hl : (l.length : Int) ≤ 4000) (m t : List UInt8) (sg : Bool) (ht : (t.length : Int) ≤ 4000)
 (c23 : ∀ W, Calls Tryz.prog 39 #[.string (B l)] W fun r w' => r = .returned (.string (B m)) ∧ Below W.heap.size W w')
 (c22 : ∀ W, Calls Tryz.prog 38 #[.string (B m)] W fun r w' => r = .returned (.tuple #[.bool sg, .string (B t)]) ∧ Below W.heap.size W w')
include hl ht c23 c22
theorem hr_es (h2 : (t.length : Int) < 2) (pc : Int) (ps pn : Bool) (pd : List UInt8) (pe : Int) (E : Int) (c24 : ∀ W, Calls Tryz.prog 40 #[.string (B l)] W fun r w' => r = .returned (.tuple #[PV pc ps pn pd pe, .int .i64 E]) ∧ Below W.heap.size W w') (hE : (E != 0) = true) :
  Calls Tryz.prog 12 #[.int .i64 n, .int .i64 d, .string (B l)] w fun r w' => r = .returned (.tuple #[Z4, .int .i64 0, .int .i64 2]) ∧ Below w.heap.size w w' := by
 have hsm := cell_set_map
 have zl : (B l).size = l.length := B_size l
 have zt : (B t).size = t.length := B_size t
 have htl := B_toList
 unfold PV at *
 go_enter Tryz.func12, Tryz.ntmps12
 go_wp2_with (first
  | (go_at_call 14; refine (c11 _).mono ?_; rintro r w1 ⟨rfl, rfl⟩)
  | (go_at_call 15; refine (c12 _).mono ?_; rintro r w1 ⟨rfl, rfl⟩)
  | (go_at_call 39; refine (c23 _).mono ?_; rintro r w2 ⟨rfl, hb2⟩; obtain ⟨hc2, hf2, hz2_0, hl2_0, hA2, hs2⟩ := wz w hb2 w.heap.size; clear hb2)
  | (go_at_call 38; refine (c22 _).mono ?_; rintro r w3 ⟨rfl, hb3⟩; obtain ⟨hc3, hf3, hz3_0, hl3_0, hA3, hs3⟩ := wz w hb3 w.heap.size; clear hb3)
  | (go_at_call 40; refine (c24 _).mono ?_; rintro r w4 ⟨rfl, hb4⟩; obtain ⟨hc4, hf4, hz4_0, hl4_0, hA4, hs4⟩ := wz w hb4 w.heap.size; clear hb4))
 exact bodyPost_ret (v := .tuple #[Z4, .int .i64 0, .int .i64 2]) (by simp only [results, Tryz.results12]; go_simp) rfl ⟨rfl, bgo⟩
theorem hr_1s (h2 : (t.length : Int) < 2) (pc : Int) (ps pn : Bool) (pd : List UInt8) (pe : Int) (c24 : ∀ W, Calls Tryz.prog 40 #[.string (B l)] W fun r w' => r = .returned (.tuple #[PV pc ps pn pd pe, .int .i64 0]) ∧ Below W.heap.size W w') (hE : pc = 1) :
  Calls Tryz.prog 12 #[.int .i64 n, .int .i64 d, .string (B l)] w fun r w' => r = .returned (.tuple #[Z4, .int .i64 0, .int .i64 2]) ∧ Below w.heap.size w w' := by
 have hsm := cell_set_map
 have zl : (B l).size = l.length := B_size l
 have zt : (B t).size = t.length := B_size t
 have htl := B_toList
 subst hE
 unfold PV at *
 go_enter Tryz.func12, Tryz.ntmps12
 go_wp2_with (first
  | (go_at_call 14; refine (c11 _).mono ?_; rintro r w1 ⟨rfl, rfl⟩)
  | (go_at_call 15; refine (c12 _).mono ?_; rintro r w1 ⟨rfl, rfl⟩)
  | (go_at_call 39; refine (c23 _).mono ?_; rintro r w2 ⟨rfl, hb2⟩; obtain ⟨hc2, hf2, hz2_0, hl2_0, hA2, hs2⟩ := wz w hb2 w.heap.size; clear hb2)
  | (go_at_call 38; refine (c22 _).mono ?_; rintro r w3 ⟨rfl, hb3⟩; obtain ⟨hc3, hf3, hz3_0, hl3_0, hA3, hs3⟩ := wz w hb3 w.heap.size; clear hb3)
  | (go_at_call 40; refine (c24 _).mono ?_; rintro r w4 ⟨rfl, hb4⟩; obtain ⟨hc4, hf4, hz4_0, hl4_0, hA4, hs4⟩ := wz w hb4 w.heap.size; clear hb4))
 exact bodyPost_ret (v := .tuple #[Z4, .int .i64 0, .int .i64 2]) (by simp only [results, Tryz.results12]; go_simp) rfl ⟨rfl, bgo⟩
theorem hr_os (h2 : (t.length : Int) < 2) (pc : Int) (ps pn : Bool) (pd : List UInt8) (pe : Int) (c24 : ∀ W, Calls Tryz.prog 40 #[.string (B l)] W fun r w' => r = .returned (.tuple #[PV pc ps pn pd pe, .int .i64 0]) ∧ Below W.heap.size W w') (hE : (pc == 1) = false) (V : Nat) (F E : Int) (c25 : ∀ W, Below w.heap.size w W → Calls Tryz.prog 41 #[.int .i64 n, .int .i64 d, PV pc ps pn pd pe] W fun r w' => r = .returned (.tuple #[A4 V, .int .i64 F, .int .i64 E]) ∧ Below W.heap.size W w') :
  Calls Tryz.prog 12 #[.int .i64 n, .int .i64 d, .string (B l)] w fun r w' => r = .returned (.tuple #[A4 V, .int .i64 F, .int .i64 E]) ∧ Below w.heap.size w w' := by
 have hsm := cell_set_map
 have zl : (B l).size = l.length := B_size l
 have zt : (B t).size = t.length := B_size t
 have htl := B_toList
 unfold PV A4 at *
 go_enter Tryz.func12, Tryz.ntmps12
 go_wp2_with (first
  | (go_at_call 14; refine (c11 _).mono ?_; rintro r w1 ⟨rfl, rfl⟩)
  | (go_at_call 15; refine (c12 _).mono ?_; rintro r w1 ⟨rfl, rfl⟩)
  | (go_at_call 39; refine (c23 _).mono ?_; rintro r w2 ⟨rfl, hb2⟩; obtain ⟨hc2, hf2, hz2_0, hl2_0, hA2, hs2⟩ := wz w hb2 w.heap.size; clear hb2)
  | (go_at_call 38; refine (c22 _).mono ?_; rintro r w3 ⟨rfl, hb3⟩; obtain ⟨hc3, hf3, hz3_0, hl3_0, hA3, hs3⟩ := wz w hb3 w.heap.size; clear hb3)
  | (go_at_call 40; refine (c24 _).mono ?_; rintro r w4 ⟨rfl, hb4⟩; obtain ⟨hc4, hf4, hz4_0, hl4_0, hA4, hs4⟩ := wz w hb4 w.heap.size; clear hb4)
  | (go_at_call 41; refine (c25 _ bgo).mono ?_; rintro r w5 ⟨rfl, hb5⟩; obtain ⟨hc5, hf5, hz5_0, hl5_0, hA5, hs5⟩ := wz w hb5 w.heap.size; obtain ⟨hz5_1, hl5_1⟩ := zf hb5 w4.heap.size; clear hb5))
 exact bodyPost_ret (v := .tuple #[.agg #[.int .u64 (W4 V 0), .int .u64 (W4 V 1), .int .u64 (W4 V 2), .int .u64 (W4 V 3)], .int .i64 F, .int .i64 E]) (by simp only [results, Tryz.results12]; go_simp) rfl ⟨rfl, bgo⟩
theorem hr_eg (h2 : ¬ (t.length : Int) < 2) (hne : (t.take 2 == [48, 120]) = false) (pc : Int) (ps pn : Bool) (pd : List UInt8) (pe : Int) (E : Int) (c24 : ∀ W, Calls Tryz.prog 40 #[.string (B l)] W fun r w' => r = .returned (.tuple #[PV pc ps pn pd pe, .int .i64 E]) ∧ Below W.heap.size W w') (hE : (E != 0) = true) :
  Calls Tryz.prog 12 #[.int .i64 n, .int .i64 d, .string (B l)] w fun r w' => r = .returned (.tuple #[Z4, .int .i64 0, .int .i64 2]) ∧ Below w.heap.size w w' := by
 have hsm := cell_set_map
 have zl : (B l).size = l.length := B_size l
 have zt : (B t).size = t.length := B_size t
 have htl := B_toList
 have hx2 : (B t).extract 0 2 = B (t.take 2) := by rw [B_ext, List.drop_zero]
 generalize t.take 2 = t2 at *
 unfold PV at *
 go_enter Tryz.func12, Tryz.ntmps12
 go_wp2_with (first
  | (go_at_call 14; refine (c11 _).mono ?_; rintro r w1 ⟨rfl, rfl⟩)
  | (go_at_call 15; refine (c12 _).mono ?_; rintro r w1 ⟨rfl, rfl⟩)
  | (go_at_call 39; refine (c23 _).mono ?_; rintro r w2 ⟨rfl, hb2⟩; obtain ⟨hc2, hf2, hz2_0, hl2_0, hA2, hs2⟩ := wz w hb2 w.heap.size; clear hb2)
  | (go_at_call 38; refine (c22 _).mono ?_; rintro r w3 ⟨rfl, hb3⟩; obtain ⟨hc3, hf3, hz3_0, hl3_0, hA3, hs3⟩ := wz w hb3 w.heap.size; clear hb3)
  | (go_at_call 40; refine (c24 _).mono ?_; rintro r w4 ⟨rfl, hb4⟩; obtain ⟨hc4, hf4, hz4_0, hl4_0, hA4, hs4⟩ := wz w hb4 w.heap.size; clear hb4))
 exact bodyPost_ret (v := .tuple #[Z4, .int .i64 0, .int .i64 2]) (by simp only [results, Tryz.results12]; go_simp) rfl ⟨rfl, bgo⟩
theorem hr_1g (h2 : ¬ (t.length : Int) < 2) (hne : (t.take 2 == [48, 120]) = false) (pc : Int) (ps pn : Bool) (pd : List UInt8) (pe : Int) (c24 : ∀ W, Calls Tryz.prog 40 #[.string (B l)] W fun r w' => r = .returned (.tuple #[PV pc ps pn pd pe, .int .i64 0]) ∧ Below W.heap.size W w') (hE : pc = 1) :
  Calls Tryz.prog 12 #[.int .i64 n, .int .i64 d, .string (B l)] w fun r w' => r = .returned (.tuple #[Z4, .int .i64 0, .int .i64 2]) ∧ Below w.heap.size w w' := by
 have hsm := cell_set_map
 have zl : (B l).size = l.length := B_size l
 have zt : (B t).size = t.length := B_size t
 have htl := B_toList
 have hx2 : (B t).extract 0 2 = B (t.take 2) := by rw [B_ext, List.drop_zero]
 generalize t.take 2 = t2 at *
 subst hE
 unfold PV at *
 go_enter Tryz.func12, Tryz.ntmps12
 go_wp2_with (first
  | (go_at_call 14; refine (c11 _).mono ?_; rintro r w1 ⟨rfl, rfl⟩)
  | (go_at_call 15; refine (c12 _).mono ?_; rintro r w1 ⟨rfl, rfl⟩)
  | (go_at_call 39; refine (c23 _).mono ?_; rintro r w2 ⟨rfl, hb2⟩; obtain ⟨hc2, hf2, hz2_0, hl2_0, hA2, hs2⟩ := wz w hb2 w.heap.size; clear hb2)
  | (go_at_call 38; refine (c22 _).mono ?_; rintro r w3 ⟨rfl, hb3⟩; obtain ⟨hc3, hf3, hz3_0, hl3_0, hA3, hs3⟩ := wz w hb3 w.heap.size; clear hb3)
  | (go_at_call 40; refine (c24 _).mono ?_; rintro r w4 ⟨rfl, hb4⟩; obtain ⟨hc4, hf4, hz4_0, hl4_0, hA4, hs4⟩ := wz w hb4 w.heap.size; clear hb4))
 exact bodyPost_ret (v := .tuple #[Z4, .int .i64 0, .int .i64 2]) (by simp only [results, Tryz.results12]; go_simp) rfl ⟨rfl, bgo⟩
theorem hr_og (h2 : ¬ (t.length : Int) < 2) (hne : (t.take 2 == [48, 120]) = false) (pc : Int) (ps pn : Bool) (pd : List UInt8) (pe : Int) (c24 : ∀ W, Calls Tryz.prog 40 #[.string (B l)] W fun r w' => r = .returned (.tuple #[PV pc ps pn pd pe, .int .i64 0]) ∧ Below W.heap.size W w') (hE : (pc == 1) = false) (V : Nat) (F E : Int) (c25 : ∀ W, Below w.heap.size w W → Calls Tryz.prog 41 #[.int .i64 n, .int .i64 d, PV pc ps pn pd pe] W fun r w' => r = .returned (.tuple #[A4 V, .int .i64 F, .int .i64 E]) ∧ Below W.heap.size W w') :
  Calls Tryz.prog 12 #[.int .i64 n, .int .i64 d, .string (B l)] w fun r w' => r = .returned (.tuple #[A4 V, .int .i64 F, .int .i64 E]) ∧ Below w.heap.size w w' := by
 have hsm := cell_set_map
 have zl : (B l).size = l.length := B_size l
 have zt : (B t).size = t.length := B_size t
 have htl := B_toList
 have hx2 : (B t).extract 0 2 = B (t.take 2) := by rw [B_ext, List.drop_zero]
 generalize t.take 2 = t2 at *
 unfold PV A4 at *
 go_enter Tryz.func12, Tryz.ntmps12
 go_wp2_with (first
  | (go_at_call 14; refine (c11 _).mono ?_; rintro r w1 ⟨rfl, rfl⟩)
  | (go_at_call 15; refine (c12 _).mono ?_; rintro r w1 ⟨rfl, rfl⟩)
  | (go_at_call 39; refine (c23 _).mono ?_; rintro r w2 ⟨rfl, hb2⟩; obtain ⟨hc2, hf2, hz2_0, hl2_0, hA2, hs2⟩ := wz w hb2 w.heap.size; clear hb2)
  | (go_at_call 38; refine (c22 _).mono ?_; rintro r w3 ⟨rfl, hb3⟩; obtain ⟨hc3, hf3, hz3_0, hl3_0, hA3, hs3⟩ := wz w hb3 w.heap.size; clear hb3)
  | (go_at_call 40; refine (c24 _).mono ?_; rintro r w4 ⟨rfl, hb4⟩; obtain ⟨hc4, hf4, hz4_0, hl4_0, hA4, hs4⟩ := wz w hb4 w.heap.size; clear hb4)
  | (go_at_call 41; refine (c25 _ bgo).mono ?_; rintro r w5 ⟨rfl, hb5⟩; obtain ⟨hc5, hf5, hz5_0, hl5_0, hA5, hs5⟩ := wz w hb5 w.heap.size; obtain ⟨hz5_1, hl5_1⟩ := zf hb5 w4.heap.size; clear hb5))
 exact bodyPost_ret (v := .tuple #[.agg #[.int .u64 (W4 V 0), .int .u64 (W4 V 1), .int .u64 (W4 V 2), .int .u64 (W4 V 3)], .int .i64 F, .int .i64 E]) (by simp only [results, Tryz.results12]; go_simp) rfl ⟨rfl, bgo⟩
end
end
end Go.Proofs.YtplocajjfoiklaaGreatDoor
