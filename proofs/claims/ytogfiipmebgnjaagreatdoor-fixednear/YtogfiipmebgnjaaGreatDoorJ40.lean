/-
  Texts that the proof leans on, joined: Ft, Fw, Lift, Lfw, Lfd, Lk, Fu, Fx.
-/
import Derived.Test.YtogfiipmebgnjaaGreatDoorJ39
import Derived.Test.YtogfiipmebgnjaaGreatDoorJ33
import Derived.Test.YtogfiipmebgnjaaGreatDoorJ1
import Derived.Test.YtogfiipmebgnjaaGreatDoorJ29
import Derived.ProofKit
import Derived.OpenShut
import Derived.Carry
import Derived.Deep.DeepHandedRow
import Derived.Test.YtogfiipmebgnjaaGreatDoorJ3
import Derived.Test.YtogfiipmebgnjaaGreatDoorJ2
import Derived.Test.YtogfiipmebgnjaaGreatDoorJ16
import Derived.Test.YtogfiipmebgnjaaGreatDoorJ27
import Derived.Test.YtogfiipmebgnjaaGreatDoorRows
import Derived.LaidLaws
import Derived.ChangeMaps5
set_option linter.unusedVariables false
set_option linter.unusedSectionVars false
set_option linter.unusedSimpArgs false
set_option maxRecDepth 20000
namespace Go.Proofs.YtogfiipmebgnjaaGreatDoor
open Go.RowKit

attribute [local irreducible] W4 NT NV
section
variable (n d cnt : Int) (V : Nat) (c : Int) (s g : Bool) (x : Int) (k : Nat) (w : World) (hT : Tab w)
include hT
set_option maxHeartbeats 2000000 in
theorem fw_e (E : Int) (hE : (E != 0) = true) (c23 : ∀ W, Tab W → Calls Tryz.prog 23 #[.int .i64 n, A4 V] W fun r w' => r = .returned (.tuple #[DV c s g x k, .int .i64 E]) ∧ Below W.heap.size W w') :
    Calls Tryz.prog 9 #[.int .i64 n, .int .i64 d, .int .i64 cnt, A4 V] w fun r w' => r = .returned (.tuple #[.string (B []), .bool false, .int .i64 1]) ∧ Below w.heap.size w w' := by
  have hn0 : B [] = ⟨#[]⟩ := rfl
  have hsm := cell_set_map
  unfold DV A4 at *
  go_enter Tryz.func9, Tryz.ntmps9
  go_wp2_with (go_at_call 23; refine (c23 _ (hT.go bgo)).mono ?_; rintro r w1 ⟨rfl, hb1⟩; obtain ⟨hc1, hf1⟩ := bcell hb1; have hz1_0 : w.heap.size < w1.heap.size := lt_below hb1 ltg; have hl1_0 := Nat.le_of_lt hz1_0; have hA1 := bnext (w0 := w) bgo hb1; have hs1 := hA1.size; clear hb1)
  exact bodyPost_ret (v := .tuple #[.string ⟨#[]⟩, .bool false, .int .i64 1]) (by simp only [results, Tryz.results9]; go_simp) rfl ⟨rfl, bgo⟩
variable (c23 : ∀ W, Tab W → Calls Tryz.prog 23 #[.int .i64 n, A4 V] W fun r w' => r = .returned (.tuple #[DV c s g x k, .int .i64 0]) ∧ Below W.heap.size W w')
include c23
set_option maxHeartbeats 2000000 in
theorem fw_d (c24 : ∀ W, Calls Tryz.prog 24 #[.int .i64 d] W fun e w' => e = .returned (.bool false) ∧ W = w') :
    Calls Tryz.prog 9 #[.int .i64 n, .int .i64 d, .int .i64 cnt, A4 V] w fun r w' => r = .returned (.tuple #[.string (B []), .bool false, .int .i64 1]) ∧ Below w.heap.size w w' := by
  have hn0 : B [] = ⟨#[]⟩ := rfl
  have hsm := cell_set_map
  unfold DV A4 at *
  go_enter Tryz.func9, Tryz.ntmps9
  go_wp2_with (first
    | (go_at_call 23; refine (c23 _ (hT.go bgo)).mono ?_; rintro r w1 ⟨rfl, hb1⟩; obtain ⟨hc1, hf1⟩ := bcell hb1; have hz1_0 : w.heap.size < w1.heap.size := lt_below hb1 ltg; have hl1_0 := Nat.le_of_lt hz1_0; have hA1 := bnext (w0 := w) bgo hb1; have hs1 := hA1.size; clear hb1)
    | (go_at_call 24; refine (c24 _).mono ?_; rintro r w2 ⟨rfl, rfl⟩))
  exact bodyPost_ret (v := .tuple #[.string ⟨#[]⟩, .bool false, .int .i64 1]) (by simp only [results, Tryz.results9]; go_simp) rfl ⟨rfl, bgo⟩
variable (c24 : ∀ W, Calls Tryz.prog 24 #[.int .i64 d] W fun e w' => e = .returned (.bool true) ∧ W = w')
include c24
set_option maxHeartbeats 2000000 in
theorem fw_r (hc : cnt < 1 ∨ 800 < cnt) :
    Calls Tryz.prog 9 #[.int .i64 n, .int .i64 d, .int .i64 cnt, A4 V] w fun r w' => r = .returned (.tuple #[.string (B []), .bool false, .int .i64 3]) ∧ Below w.heap.size w w' := by
  have hn0 : B [] = ⟨#[]⟩ := rfl
  have hsm := cell_set_map
  unfold DV A4 at *
  rcases hc with hc | hc
  · go_enter Tryz.func9, Tryz.ntmps9
    go_wp2_with (first
      | (go_at_call 23; refine (c23 _ (hT.go bgo)).mono ?_; rintro r w1 ⟨rfl, hb1⟩; obtain ⟨hc1, hf1⟩ := bcell hb1; have hz1_0 : w.heap.size < w1.heap.size := lt_below hb1 ltg; have hl1_0 := Nat.le_of_lt hz1_0; have hA1 := bnext (w0 := w) bgo hb1; have hs1 := hA1.size; clear hb1)
      | (go_at_call 24; refine (c24 _).mono ?_; rintro r w2 ⟨rfl, rfl⟩))
    exact bodyPost_ret (v := .tuple #[.string ⟨#[]⟩, .bool false, .int .i64 3]) (by simp only [results, Tryz.results9]; go_simp) rfl ⟨rfl, bgo⟩
  · have hc1 : ¬ cnt < 1 := by omega
    go_enter Tryz.func9, Tryz.ntmps9
    go_wp2_with (first
      | (go_at_call 23; refine (c23 _ (hT.go bgo)).mono ?_; rintro r w1 ⟨rfl, hb1⟩; obtain ⟨hc1, hf1⟩ := bcell hb1; have hz1_0 : w.heap.size < w1.heap.size := lt_below hb1 ltg; have hl1_0 := Nat.le_of_lt hz1_0; have hA1 := bnext (w0 := w) bgo hb1; have hs1 := hA1.size; clear hb1)
      | (go_at_call 24; refine (c24 _).mono ?_; rintro r w2 ⟨rfl, rfl⟩))
    exact bodyPost_ret (v := .tuple #[.string ⟨#[]⟩, .bool false, .int .i64 3]) (by simp only [results, Tryz.results9]; go_simp) rfl ⟨rfl, bgo⟩
variable (hc1 : 1 ≤ cnt) (hc8 : cnt ≤ 800)
include hc1 hc8
set_option maxHeartbeats 2000000 in
theorem fw_c (hc : (c != 1) = true) :
    Calls Tryz.prog 9 #[.int .i64 n, .int .i64 d, .int .i64 cnt, A4 V] w fun r w' => r = .returned (.tuple #[.string (B []), .bool false, .int .i64 6]) ∧ Below w.heap.size w w' := by
  have hn0 : B [] = ⟨#[]⟩ := rfl
  have hsm := cell_set_map
  unfold DV A4 at *
  go_enter Tryz.func9, Tryz.ntmps9
  go_wp2_with (first
    | (go_at_call 23; refine (c23 _ (hT.go bgo)).mono ?_; rintro r w1 ⟨rfl, hb1⟩; obtain ⟨hc1, hf1⟩ := bcell hb1; have hz1_0 : w.heap.size < w1.heap.size := lt_below hb1 ltg; have hl1_0 := Nat.le_of_lt hz1_0; have hA1 := bnext (w0 := w) bgo hb1; have hs1 := hA1.size; clear hb1)
    | (go_at_call 24; refine (c24 _).mono ?_; rintro r w2 ⟨rfl, rfl⟩))
  exact bodyPost_ret (v := .tuple #[.string ⟨#[]⟩, .bool false, .int .i64 6]) (by simp only [results, Tryz.results9]; go_simp) rfl ⟨rfl, bgo⟩
variable (hc : c = 1) (hT10 : Tb10 w) (D T : List UInt8) (e : Int) (ex : Bool) (hl : T.length ≤ 100000)
  (c25 : ∀ W, Calls Tryz.prog 25 #[.int .i64 d, .int .i64 cnt, DV 1 s g x k] W fun r w' => r = .returned (.tuple #[.string (B D), .int .i64 e, .bool ex]) ∧ Below W.heap.size W w')
  (c26 : ∀ W, Tb10 W → Calls Tryz.prog 26 #[.string (B D), .int .i64 e] W fun r w' => r = .returned (.string (B T)) ∧ Below W.heap.size W w')
include hc hT10 hl c25 c26
set_option maxHeartbeats 2000000 in
theorem fw_p (hs : s = false) :
    Calls Tryz.prog 9 #[.int .i64 n, .int .i64 d, .int .i64 cnt, A4 V] w fun r w' => r = .returned (.tuple #[.string (B T), .bool (!ex), .int .i64 0]) ∧ Below w.heap.size w w' := by
  subst hc hs
  have hsm := cell_set_map
  unfold DV A4 at *
  go_enter Tryz.func9, Tryz.ntmps9
  go_wp2_with (first
    | (go_at_call 23; refine (c23 _ (hT.go bgo)).mono ?_; rintro r w1 ⟨rfl, hb1⟩; obtain ⟨hc1, hf1⟩ := bcell hb1; have hz1_0 : w.heap.size < w1.heap.size := lt_below hb1 ltg; have hl1_0 := Nat.le_of_lt hz1_0; have hA1 := bnext (w0 := w) bgo hb1; have hs1 := hA1.size; clear hb1)
    | (go_at_call 24; refine (c24 _).mono ?_; rintro r w2 ⟨rfl, rfl⟩)
    | (go_at_call 25; refine (c25 _).mono ?_; rintro r w3 ⟨rfl, hb3⟩; obtain ⟨hc3, hf3⟩ := bcell hb3; have hz3_0 : w.heap.size < w3.heap.size := lt_below hb3 ltg; have hl3_0 := Nat.le_of_lt hz3_0; have hz3_1 : w1.heap.size < w3.heap.size := lt_below hb3 ltg; have hl3_1 := Nat.le_of_lt hz3_1; have hA3 := bnext (w0 := w) bgo hb3; have hs3 := hA3.size; clear hb3)
    | (go_at_call 26; refine (c26 _ (hT10.next bgo)).mono ?_; rintro r w4 ⟨rfl, hb4⟩; obtain ⟨hc4, hf4⟩ := bcell hb4; have hz4_0 : w.heap.size < w4.heap.size := lt_below hb4 ltg; have hl4_0 := Nat.le_of_lt hz4_0; have hz4_1 : w1.heap.size < w4.heap.size := lt_below hb4 ltg; have hl4_1 := Nat.le_of_lt hz4_1; have hA4 := bnext (w0 := w) bgo hb4; have hs4 := hA4.size; clear hb4))
  exact bodyPost_ret (v := .tuple #[.string (B T), .bool (!ex), .int .i64 0]) (by simp only [results, Tryz.results9]; go_simp) rfl ⟨rfl, bgo⟩
set_option maxHeartbeats 2000000 in
theorem fw_m (hs : s = true) :
    Calls Tryz.prog 9 #[.int .i64 n, .int .i64 d, .int .i64 cnt, A4 V] w fun r w' => r = .returned (.tuple #[.string (B ([45] ++ T)), .bool (!ex), .int .i64 0]) ∧ Below w.heap.size w w' := by
  subst hc hs
  have hsm := cell_set_map
  have htl := B_toList
  have p0 : (⟨#[45]⟩ : ByteArray) ++ B T = B ([45] ++ T) := B_app [45] T
  have z0 : (B T).size = T.length := B_size T
  generalize [45] ++ T = T2 at *
  unfold DV A4 at *
  go_enter Tryz.func9, Tryz.ntmps9
  go_wp2_with (first
    | (go_at_call 23; refine (c23 _ (hT.go bgo)).mono ?_; rintro r w1 ⟨rfl, hb1⟩; obtain ⟨hc1, hf1⟩ := bcell hb1; have hz1_0 : w.heap.size < w1.heap.size := lt_below hb1 ltg; have hl1_0 := Nat.le_of_lt hz1_0; have hA1 := bnext (w0 := w) bgo hb1; have hs1 := hA1.size; clear hb1)
    | (go_at_call 24; refine (c24 _).mono ?_; rintro r w2 ⟨rfl, rfl⟩)
    | (go_at_call 25; refine (c25 _).mono ?_; rintro r w3 ⟨rfl, hb3⟩; obtain ⟨hc3, hf3⟩ := bcell hb3; have hz3_0 : w.heap.size < w3.heap.size := lt_below hb3 ltg; have hl3_0 := Nat.le_of_lt hz3_0; have hz3_1 : w1.heap.size < w3.heap.size := lt_below hb3 ltg; have hl3_1 := Nat.le_of_lt hz3_1; have hA3 := bnext (w0 := w) bgo hb3; have hs3 := hA3.size; clear hb3)
    | (go_at_call 26; refine (c26 _ (hT10.next bgo)).mono ?_; rintro r w4 ⟨rfl, hb4⟩; obtain ⟨hc4, hf4⟩ := bcell hb4; have hz4_0 : w.heap.size < w4.heap.size := lt_below hb4 ltg; have hl4_0 := Nat.le_of_lt hz4_0; have hz4_1 : w1.heap.size < w4.heap.size := lt_below hb4 ltg; have hl4_1 := Nat.le_of_lt hz4_1; have hA4 := bnext (w0 := w) bgo hb4; have hs4 := hA4.size; clear hb4))
  exact bodyPost_ret (v := .tuple #[.string (B T2), .bool (!ex), .int .i64 0]) (by simp only [results, Tryz.results9]; go_simp) rfl ⟨rfl, bgo⟩
end
theorem fwrite_e {n d cnt : Int} {V : Nat} (hV : V < 2 ^ 256) (h : ¬ knB d ∨ ¬ goodN n V) (w : World) (hT : Tab w) : Calls Tryz.prog 9 #[.int .i64 n, .int .i64 d, .int .i64 cnt, A4 V] w fun r w' => r = .returned (.tuple #[.string (B []), .bool false, .int .i64 1]) ∧ Below w.heap.size w w' := by
  have c23 := fun W hW => unpack_any n V W hW hV
  by_cases hg : goodN n V
  · rw [show unE n V = 0 from if_pos hg] at c23
    have c24 := fun W => known_any d W
    rw [decide_eq_false (h.resolve_right (fun e => e hg))] at c24
    exact fw_d n d cnt V _ _ _ _ _ w hT c23 c24
  · rw [show unE n V = 1 from if_neg hg] at c23
    exact fw_e n d cnt V _ _ _ _ _ w hT 1 (by decide) c23
section
variable {n d : Int} {V : Nat} (hV : V < 2 ^ 256) (hd : knB d) (hg : goodN n V) (w : World) (hT : Tab w)
include hV hd hg hT
theorem fwrite_r {cnt : Int} (hc : cnt < 1 ∨ 800 < cnt) : Calls Tryz.prog 9 #[.int .i64 n, .int .i64 d, .int .i64 cnt, A4 V] w fun r w' => r = .returned (.tuple #[.string (B []), .bool false, .int .i64 3]) ∧ Below w.heap.size w w' := by
  have c23 := fun W hW => unpack_any n V W hW hV
  rw [show unE n V = 0 from if_pos hg] at c23
  have c24 := fun W => known_any d W
  rw [decide_eq_true hd] at c24
  exact fw_r n d cnt V _ _ _ _ _ w hT c23 c24 hc
variable {m : Nat} (hm1 : 1 ≤ m) (hm8 : m ≤ 800)
include hm1 hm8
theorem fwrite_c (hc : (unD n V).c ≠ 1) : Calls Tryz.prog 9 #[.int .i64 n, .int .i64 d, .int .i64 (m : Int), A4 V] w fun r w' => r = .returned (.tuple #[.string (B []), .bool false, .int .i64 6]) ∧ Below w.heap.size w w' := by
  have c23 := fun W hW => unpack_any n V W hW hV
  rw [show unE n V = 0 from if_pos hg] at c23
  have c24 := fun W => known_any d W
  rw [decide_eq_true hd] at c24
  exact fw_c n d m V _ _ _ _ _ w hT c23 c24 (by omega) (by omega) (by simpa using hc)
variable (hT10 : Tb10 w) (hc : (unD n V).c = 1)
include hT10 hc
theorem fwrite_t {D T : List UInt8} {e : Int} {ex : Bool} (hl : T.length ≤ 100000)
    (c25 : ∀ W, Calls Tryz.prog 25 #[.int .i64 d, .int .i64 (m : Int), DV 1 (unD n V).s (unD n V).g (unD n V).x (unD n V).k] W fun r w' => r = .returned (.tuple #[.string (B D), .int .i64 e, .bool ex]) ∧ Below W.heap.size W w')
    (c26 : ∀ W, Tb10 W → Calls Tryz.prog 26 #[.string (B D), .int .i64 e] W fun r w' => r = .returned (.string (B T)) ∧ Below W.heap.size W w') :
    Calls Tryz.prog 9 #[.int .i64 n, .int .i64 d, .int .i64 (m : Int), A4 V] w fun r w' => r = .returned (.tuple #[.string (B (sgL (unD n V).s ++ T)), .bool (!ex), .int .i64 0]) ∧ Below w.heap.size w w' := by
  have c23 := fun W hW => unpack_any n V W hW hV
  rw [show unE n V = 0 from if_pos hg] at c23
  have eD : (unD n V).v = DV 1 (unD n V).s (unD n V).g (unD n V).x (unD n V).k := by rw [← hc]
  rw [eD] at c23
  have c24 := fun W => known_any d W
  rw [decide_eq_true hd] at c24
  cases hs : (unD n V).s
  · rw [hs] at c23 c25
    exact fw_p n d m V 1 false (unD n V).g (unD n V).x (unD n V).k w hT c23 c24 (by omega) (by omega) rfl hT10 D T e ex hl c25 c26 rfl
  · rw [hs] at c23 c25
    exact fw_m n d m V 1 true (unD n V).g (unD n V).x (unD n V).k w hT c23 c24 (by omega) (by omega) rfl hT10 D T e ex hl c25 c26 rfl
theorem fwrite_0 (hk : (unD n V).k = 0) :
    Calls Tryz.prog 9 #[.int .i64 n, .int .i64 d, .int .i64 (m : Int), A4 V] w fun r w' => r = .returned (.tuple #[.string (B (sgL (unD n V).s ++ unT (List.replicate m 48) 0)), .bool false, .int .i64 0]) ∧ Below w.heap.size w w' := by
  have hb := unT_brief (D := List.replicate m 48) (e := 0) (by omega)
  rw [List.length_replicate] at hb
  refine fwrite_t hV hd hg w hT hm1 hm8 hT10 hc (D := List.replicate m 48) (e := 0) (ex := true) (by omega) (fun W => ?_) (fun W hW => ltext_v _ 0 W hW (by omega) (by rw [List.length_replicate]; omega) (by rw [List.length_replicate]; omega))
  refine sig_0 d m 1 (unD n V).s (unD n V).g (unD n V).x (unD n V).k W ⟨hm1, hm8⟩ fun W => ?_
  have := fnone_v 1 (unD n V).s (unD n V).g (unD n V).x (unD n V).k W (by rw [hk]; decide)
  rw [decide_eq_true hk] at this
  exact this
theorem fwrite_k (hk : (unD n V).k ≠ 0) {E : Int} (hE : E = cuE (unD n V).k (unD n V).x) :
    Calls Tryz.prog 9 #[.int .i64 n, .int .i64 d, .int .i64 (m : Int), A4 V] w fun r w' => r = .returned (.tuple #[.string (B (fxT d (unD n V).s (unD n V).k (unD n V).x E m)), .bool (fxI (unD n V).k (unD n V).x E m), .int .i64 0]) ∧ Below w.heap.size w w' := by
  subst hE
  obtain ⟨hb, hkb, hx1, hx2, hD⟩ := fin_facts ⟨hg, hc, hk⟩
  obtain ⟨t0, t1⟩ := cu_top hk (unD n V).x
  have hfar := tn_far hkb hx2 t0
  have hlow := tn_low hk hx1 t1
  obtain ⟨f1, f2⟩ := fx_digits d (unD n V).s t0 t1 hm1 (a := cuE (unD n V).k (unD n V).x - m + 1) rfl
  obtain ⟨x1, x2, x3⟩ := fx_text hm1 f1 f2 (cuE (unD n V).k (unD n V).x - m + 1)
  have hX : cuE (unD n V).k (unD n V).x - m + 1 ≤ fxX m (fxC d (unD n V).s (unD n V).k (unD n V).x (cuE (unD n V).k (unD n V).x) m) (cuE (unD n V).k (unD n V).x - m + 1) ∧ fxX m (fxC d (unD n V).s (unD n V).k (unD n V).x (cuE (unD n V).k (unD n V).x) m) (cuE (unD n V).k (unD n V).x - m + 1) ≤ cuE (unD n V).k (unD n V).x - m + 1 + 1 := by
    unfold fxX
    split <;> omega
  have x2' : (fxD m (fxC d (unD n V).s (unD n V).k (unD n V).x (cuE (unD n V).k (unD n V).x) m)).length = m := x2
  have hbr := unT_brief (D := fxD m (fxC d (unD n V).s (unD n V).k (unD n V).x (cuE (unD n V).k (unD n V).x) m)) (e := fxX m (fxC d (unD n V).s (unD n V).k (unD n V).x (cuE (unD n V).k (unD n V).x) m) (cuE (unD n V).k (unD n V).x - m + 1) + m - 1) (by omega)
  have := fwrite_t hV hd hg w hT hm1 hm8 hT10 hc (by omega) (fun W => sig_v d m 1 (unD n V).s (unD n V).g (unD n V).x (unD n V).k W ⟨hm1, hm8⟩ hk hkb ⟨hx1, hx2⟩) (fun W hW => ltext_v _ _ W hW (by omega) (by omega) (by omega))
  rw [Bool.not_not] at this
  exact this
end
end Go.Proofs.YtogfiipmebgnjaaGreatDoor

namespace Go.Proofs.YtogfiipmebgnjaaGreatDoor
open Go.RowKit

theorem tenth_text : fxT 0 false 13421773 (-27) (-1) 3 = [49, 46, 48, 48, 101, 45, 49] ∧ fxI 13421773 (-27) (-1) 3 = true := ⟨by decide +kernel, by decide +kernel⟩
theorem tenth_top : cuE 13421773 (-27) = -1 := by decide +kernel
theorem fwrite_tenth (w : World) (hT : Tab w) (hT10 : Tb10 w) : Calls Tryz.prog 9 #[.int .i64 3, .int .i64 0, .int .i64 3, A4 1036831949] w fun r w' => r = .returned (.tuple #[.string (B [49, 46, 48, 48, 101, 45, 49]), .bool true, .int .i64 0]) ∧ Below w.heap.size w w' := by
  have hg : goodN 3 1036831949 := by decide
  have := fwrite_k (n := 3) (d := 0) (V := 1036831949) (m := 3) (E := -1) (by decide) (by decide) hg w hT (by decide) (by decide) hT10 (by rw [third_un.1]) (by rw [third_un.1]; decide) (by rw [third_un.1]; exact tenth_top.symm)
  rw [third_un.1] at this
  rw [tenth_text.1, tenth_text.2] at this
  exact this
attribute [local irreducible] W4
set_option maxHeartbeats 1000000 in
theorem awake10 (w : World) (hT : Tab w) (hT10 : Tb10 w) : Calls Tryz.prog 8 #[] w fun r w' => r = .returned (.bool true) ∧ Below w.heap.size w w' := by
  have c9 := fun W (h1 : Tab W) (h2 : Tb10 W) => fwrite_tenth W h1 h2
  rw [A4_third] at c9
  have eb : B [49, 46, 48, 48, 101, 45, 49] = ⟨#[49, 46, 48, 48, 101, 45, 49]⟩ := rfl
  rw [eb] at c9
  go_enter Tryz.func8, Tryz.ntmps8
  go_wp2_with (go_at_call 9; refine (c9 _ (hT.go bgo) (hT10.next bgo)).mono ?_; rintro r w1 ⟨rfl, hb1⟩)
  go_ret
  exact ⟨rfl, hb1⟩
section
variable (n d cnt : Int) (V : Nat) (w : World) (hT : Tab w) (hT10 : Tb10 w)
  (c8 : ∀ W, Below w.heap.size w W → Calls Tryz.prog 8 #[] W fun r w' => r = .returned (.bool true) ∧ Below W.heap.size W w')
include hT hT10 c8
set_option maxHeartbeats 2000000 in
theorem law10_3 (T : List UInt8) (b : Bool) (e : Int)
    (c9 : ∀ W, Tab W → Tb10 W → Calls Tryz.prog 9 #[.int .i64 n, .int .i64 d, .int .i64 cnt, A4 V] W fun r w' => r = .returned (.tuple #[.string (B T), .bool b, .int .i64 e]) ∧ Below W.heap.size W w')
    (c10 : ∀ W, Tb10 W → Calls Tryz.prog 10 #[.int .i64 n, .int .i64 d, .int .i64 cnt, A4 V] W fun r w' => r = .returned (.tuple #[.string (B T), .bool b, .int .i64 e]) ∧ Below W.heap.size W w') :
    Calls Tryz.prog 3 #[.int .i64 n, .int .i64 d, .int .i64 cnt, A4 V] w fun r w' => r = .returned (.bool true) ∧ Below w.heap.size w w' := by
  have hsm := cell_set_map
  unfold A4 at *
  go_enter Tryz.func3, Tryz.ntmps3
  go_wp2_with (first
    | (go_at_call 8; refine (c8 _ bgo).mono ?_; rintro r w1 ⟨rfl, hb1⟩; obtain ⟨hc1, hf1⟩ := bcell hb1; have hz1_0 : w.heap.size < w1.heap.size := lt_below hb1 ltg; have hl1_0 := Nat.le_of_lt hz1_0; have hA1 := bnext (w0 := w) bgo hb1; have hs1 := hA1.size; clear hb1)
    | (go_at_call 9; refine (c9 _ (hT.go bgo) (hT10.next bgo)).mono ?_; rintro r w2 ⟨rfl, hb2⟩; obtain ⟨hc2, hf2⟩ := bcell hb2; have hz2_0 : w.heap.size < w2.heap.size := lt_below hb2 ltg; have hl2_0 := Nat.le_of_lt hz2_0; have hA2 := bnext (w0 := w) bgo hb2; have hs2 := hA2.size; clear hb2)
    | (go_at_call 10; refine (c10 _ (hT10.next bgo)).mono ?_; rintro r w3 ⟨rfl, hb3⟩; obtain ⟨hc3, hf3⟩ := bcell hb3; have hz3_0 : w.heap.size < w3.heap.size := lt_below hb3 ltg; have hl3_0 := Nat.le_of_lt hz3_0; have hA3 := bnext (w0 := w) bgo hb3; have hs3 := hA3.size; clear hb3))
  go_ret
  exact ⟨by simp, bgo⟩
end
theorem fixedWrites_any (n d cnt : Int) (V : Nat) (w : World) (hT : Tab w) (hT10 : Tb10 w) (hV : V < 2 ^ 256) : Calls Tryz.prog 3 #[.int .i64 n, .int .i64 d, .int .i64 cnt, A4 V] w fun r w' => r = .returned (.bool true) ∧ Below w.heap.size w w' := by
  have c8 := fun W (hW : Below w.heap.size w W) => awake10 W (hT.go hW) (hT10.next hW)
  by_cases h : knB d ∧ goodN n V
  · obtain ⟨hd, hg⟩ := h
    by_cases hc : cnt < 1 ∨ 800 < cnt
    · exact law10_3 n d cnt V w hT hT10 c8 [] false 3 (fun W hW _ => fwrite_r hV hd hg W hW hc) (fun W _ => write10_r hV hd hg hc W)
    · obtain ⟨m, rfl⟩ : ∃ m : Nat, cnt = (m : Int) := ⟨cnt.toNat, by omega⟩
      have hm1 : 1 ≤ m := by omega
      have hm8 : m ≤ 800 := by omega
      by_cases hf : (unD n V).c = 1
      · by_cases hk : (unD n V).k = 0
        · exact law10_3 n d m V w hT hT10 c8 _ false 0 (fun W hW hW10 => fwrite_0 hV hd hg W hW hm1 hm8 hW10 hf hk) (fun W hW10 => write10_0 hV hd hg hm1 hm8 hf hk W hW10)
        · obtain ⟨t0, t1⟩ := cu_top hk (unD n V).x
          exact law10_3 n d m V w hT hT10 c8 _ _ 0 (fun W hW hW10 => fwrite_k hV hd hg W hW hm1 hm8 hW10 hf hk rfl) (fun W hW10 => write10_k hV hd ⟨hg, hf, hk⟩ hm1 hm8 t0 t1 W hW10)
      · exact law10_3 n d m V w hT hT10 c8 [] false 6 (fun W hW _ => fwrite_c hV hd hg W hW hm1 hm8 hf) (fun W _ => write10_c hV hd hg hm1 hm8 hf W)
  · have h' : ¬ knB d ∨ ¬ goodN n V := by
      by_cases hd : knB d
      · exact Or.inr fun hg => h ⟨hd, hg⟩
      · exact Or.inl hd
    exact law10_3 n d cnt V w hT hT10 c8 [] false 1 (fun W hW _ => fwrite_e hV h' W hW) (fun W _ => write10_e hV h' W)
end Go.Proofs.YtogfiipmebgnjaaGreatDoor

namespace Go.Proofs.YtogfiipmebgnjaaGreatDoor
open Go.ChangeShapes Go.WideShapes Go.ChangeAt Go.RowKit

theorem Tryz.own : ownKnob Tryz.prog.godebug = none := by kernel_rfl
theorem Tryz.laidOut : laidOutB Tryz.prog = true := by kernel_rfl
def tabCells : Array Value := ((List.range 12).flatMap fun i => (List.range 4).map fun k => rowV i k).toArray
def layCells (c : Array Value) : Obj → Obj
  | .cells _ t frozen => .cells c t frozen
  | o => o
end Go.Proofs.YtogfiipmebgnjaaGreatDoor

set_option maxRecDepth 100000
set_option maxRecDepth 20000
namespace Go.Proofs.YtogfiipmebgnjaaGreatDoor
open Go.ChangeShapes Go.WideShapes Go.ChangeAt Go.RowKit

theorem Tryz.cells22 : Tryz.prog.cellsOf 22 = 1 := by kernel_rfl
section
variable {H : Type} {enc : TypeId × Value → H} {W : World} {r : Reach} {base b : Nat} {sp : Nat → Bool} {held : Bool} {t : TypeId} {n : Nat} {v : Value} {d : DataW H} {p : List MemPlace}
theorem open_words (ht : Tryz.prog.underlying t = some (.array n 22)) (hc : Tryz.prog.cellsOf t = n) (hok : Value.okWide Tryz.prog W r base t v) (h : DataW.Trod enc Tryz.prog W b sp held t v d p) :
    ∃ x, Words x ∧ v = .agg (arrOf x n) ∧ p = [] := by
  have ho : ∃ cs, v = .agg cs ∧ cs.size = n := by
    simp only [Value.okWide, ht] at hok
    obtain ⟨cs, h1, h2, _⟩ := hok
    exact ⟨cs, h1, by rw [h2, hc]⟩
  obtain ⟨cs, rfl, hcs⟩ := ho
  obtain ⟨fuel, hf⟩ := h
  obtain ⟨xs, m, rfl, hx, hl, hlen, hi⟩ := DataW.trod_array ht hf
  have hcell : ∀ i, i < n → ∃ z, cs[i]? = some (.int .u64 z) ∧ xs[i]? = some (.lit (.int .u64 z), []) ∧ (0 ≤ z ∧ z ≤ 18446744073709551615) := by
    intro i hin
    have h1 := hi i hin
    rw [Tryz.cells22] at h1
    have hix : i < xs.length := by omega
    rw [List.getElem?_eq_getElem hix] at h1
    obtain ⟨z, hz, hxz, hw⟩ := DataW.trod_int Tryz.underlying22 h1
    refine ⟨z, ?_, ?_, bounds_u64 hw⟩
    · have hic : i < cs.size := by omega
      have : ((Value.agg cs).cells.toList.drop (i * 1)).take 1 = [cs[i]] := by
        simp [Value.cells, List.take_one, List.head?_drop, hic]
      rw [this] at hz
      rw [Array.getElem?_eq_getElem hic]
      simpa using hz
    · rw [List.getElem?_eq_getElem hix, hxz]
  refine ⟨fun i => match cs[i]? with | some (.int .u64 z) => (if i < n then z else 0) | _ => 0, ?_, ?_, ?_⟩
  · intro i
    by_cases hin : i < n
    · obtain ⟨z, h1, _, h3⟩ := hcell i hin
      simp only [h1, if_pos hin]; exact h3
    · have : cs[i]? = none := by simp; omega
      simp only [this]; omega
  · congr 1
    refine arrOf_of cs n _ hcs fun i hin => ?_
    obtain ⟨z, h1, _, _⟩ := hcell i hin
    simp only [h1, if_pos hin]
  · have : p = xs.flatMap (·.2) := by
      have := congrArg Prod.snd hx; simpa using this
    rw [this]
    simp only [List.flatMap_eq_nil_iff]
    intro y hy
    obtain ⟨i, hin, rfl⟩ := List.getElem_of_mem hy
    obtain ⟨z, _, h2, _⟩ := hcell i (by omega)
    rw [List.getElem?_eq_getElem hin] at h2
    rw [Option.some.inj h2]
end
end Go.Proofs.YtogfiipmebgnjaaGreatDoor

set_option maxRecDepth 100000
namespace Go.Proofs.YtogfiipmebgnjaaGreatDoor
open Go.ChangeShapes Go.WideShapes Go.ChangeAt Go.RowKit

section
variable {H : Type} {enc : TypeId × Value → H} {W : World} {r : Reach} {base b : Nat} {sp : Nat → Bool} {held : Bool} {t : TypeId} {n : Nat} {v : Value} {d : DataW H} {p : List MemPlace}
theorem open_bits (hok : Value.okWide Tryz.prog W r base 24 v) (h : DataW.Trod enc Tryz.prog W b sp held 24 v d p) : ∃ A, A < 2 ^ 256 ∧ v = A4 A ∧ p = [] := by
  obtain ⟨x, hx, rfl, hp⟩ := open_words Tryz.underlying24 (by kernel_rfl) hok h
  obtain ⟨A, hA, he, _⟩ := words_A4 hx
  exact ⟨A, hA, he, hp⟩
theorem bits_stay {W' : World} {sp' : Nat → Bool} (h : DataW.Trod enc Tryz.prog W 0 (fun _ => true) true 24 v d []) : DataW.Trod enc Tryz.prog W' 0 sp' true 24 v d [] :=
  WideElems.Trod_stays Tryz.laidOut (by kernel_rfl) (of_decide_eq_true (by kernel_rfl)) h (by simp) (by simp)
end
end Go.Proofs.YtogfiipmebgnjaaGreatDoor

namespace Go.Proofs.YtogfiipmebgnjaaGreatDoor
open Go.ChangeShapes Go.WideShapes Go.ChangeAt Go.RowKit

/-- Go's tables, as cells -/
def firstCells : Array Value := (((List.replicate 128 240 ++ List.replicate 66 241 ++ List.replicate 30 2 ++ [19] ++ List.replicate 12 3 ++ [35] ++ List.replicate 2 3 ++ [52] ++ List.replicate 3 4 ++ [68] ++ List.replicate 11 241 : List Int)).map fun n => Value.int .u8 n).toArray
def rangeCells : Array Value := ((([128, 191, 160, 191, 128, 159, 144, 191, 128, 143] ++ List.replicate 22 0 : List Int)).map fun n => Value.int .u8 n).toArray
def db32Cells : Array Value := (([0, 1, 28, 2, 29, 14, 24, 3, 30, 22, 20, 15, 25, 17, 4, 8, 31, 27, 13, 23, 21, 19, 16, 7, 26, 12, 18, 6, 11, 5, 10, 9] : List Int).map fun n => Value.int .u8 n).toArray
def db64Cells : Array Value := ((([0, 1, 56, 2, 57, 49, 28, 3, 61, 58, 42, 50, 38, 29, 17, 4, 62, 47, 59, 36, 45, 43, 51, 22, 53, 39, 33, 30, 24, 18, 12, 5] ++ [63, 55, 48, 27, 60, 41, 37, 16, 46, 35, 44, 21, 52, 32, 23, 11, 54, 26, 40, 15, 34, 20, 31, 10, 25, 14, 19, 9, 13, 8, 7, 6] : List Int)).map fun n => Value.int .u8 n).toArray
def pow10Cells : Array Value := ((List.range 20).map fun k => Value.int .u64 ((10 ^ k : Nat) : Int)).toArray
noncomputable def laidWorld8 (os : Os) : World :=
  { World.holding Tryz.prog os ⟨#[], #[], []⟩ with heap := ((((((World.holding Tryz.prog os ⟨#[], #[], []⟩).heap.modify 2 (layCells tabCells)).modify 3 (layCells pow10Cells)).modify 7 (layCells db32Cells)).modify 8 (layCells db64Cells)).modify 5 (layCells firstCells)).modify 6 (layCells rangeCells) }
theorem laid_tail {P : Program} {W : World} {x : String × DataW Unit} {r : List (String × DataW Unit)} (h : laidMet P (x :: r) W) : laidMet P r W := by
  obtain ⟨ps, ⟨g, t, cs, fuel, p, q, _, _, _, _, hr, rfl⟩, hn, hc⟩ := h
  refine ⟨q, hr, ?_, fun b off hm => hc b off (by simp [hm])⟩
  exact (List.nodup_append.1 hn).2.1
theorem pw10_of_list {W : World} {x y : String × DataW Unit} {r : List (String × DataW Unit)} (h : laidMet Tryz.prog (x :: y :: ("internal/strconv.uint64pow10", Lib.tabData .u64 Lib.pow10Tab) :: r) W) : Tb10 W :=
  Lib.tabIs_of_head (P := Tryz.prog) (name := "internal/strconv.uint64pow10") (k := .u64) (zs := Lib.pow10Tab) (g := 3) (t := 199) (e := 22) (n := 20) (by kernel_rfl) (by kernel_rfl) (by kernel_rfl) (by kernel_rfl) (by kernel_rfl) (by kernel_rfl) (laid_tail (laid_tail h))
theorem tab_of_list {W : World} {x0 x1 x2 x3 : String × DataW Unit} {r : List (String × DataW Unit)} (h : laidMet Tryz.prog (x0 :: x1 :: x2 :: x3 :: ("caliper/desc.rows", Rows.laid_caliper_desc_rows) :: r) W) : Tab W :=
  tab_of_laid (laid_tail (laid_tail (laid_tail (laid_tail h))))
section
variable {H : Type} {enc : TypeId × Value → H} {W : World} {r : Reach} {base b : Nat} {sp : Nat → Bool} {held : Bool} {t : TypeId} {n : Nat} {v : Value} {d : DataW H} {p : List MemPlace}
end
end Go.Proofs.YtogfiipmebgnjaaGreatDoor

set_option maxRecDepth 20000
namespace Go.Proofs.YtogfiipmebgnjaaGreatDoor
open Go.RowKit

theorem dw_rep (l : List UInt8) : ∀ z, (List.replicate z (48 : UInt8) ++ l).dropWhile (· == 48) = l.dropWhile (· == 48)
  | 0 => rfl
  | z + 1 => by
    rw [List.replicate_succ, List.cons_append, List.dropWhile_cons, if_pos (by decide)]
    exact dw_rep l z
theorem trim_48 {T : List UInt8} {c : UInt8} (h : (c.toNat : Int) ≠ 48) (z : Nat) : Lib.trimRightB (T ++ [c] ++ List.replicate z 48) 48 = T ++ [c] := by
  unfold Lib.trimRightB
  rw [List.reverse_append, List.reverse_replicate, dw_rep, List.reverse_append]
  have hc : (c == 48) = false := by
    rw [beq_eq_false_iff_ne]
    rintro rfl
    exact h rfl
  rw [show [c].reverse ++ T.reverse = c :: T.reverse from rfl, List.dropWhile_cons, if_neg (by rw [hc]; decide)]
  simp
theorem trim_v {T : List UInt8} {c : UInt8} (h : (c.toNat : Int) ≠ 48) (z : Nat) (hl : T.length + 1 + z ≤ 100000) (w : World) : Calls Tryz.prog 35 #[.string (B (T ++ [c] ++ List.replicate z 48)), .string ⟨#[48]⟩] w fun r w' => r = .returned (.string (B (T ++ [c]))) ∧ w = w' := by
  refine (Tryz.strings_TrimRight_one (B (T ++ [c] ++ List.replicate z 48)) 48 (by decide) w ?_).mono fun r w' ⟨h1, h2⟩ => ⟨?_, h2.symm⟩
  · rw [B_size]
    simp only [List.length_append, List.length_cons, List.length_nil, List.length_replicate]
    omega
  · rw [h1]
    have e : (B (T ++ [c] ++ List.replicate z 48)).data.toList = T ++ [c] ++ List.replicate z 48 := by unfold B; simp
    rw [e, trim_48 h]
    rfl
attribute [local irreducible] W4 NT NV Nt Nz
section
variable (n : Int) (V : Nat) (c : Int) (s g : Bool) (x : Int) (k : Nat) (w : World) (hT : Tab w)
include hT
set_option maxHeartbeats 2000000 in
theorem fx_e (E : Int) (hE : (E != 0) = true) (c23 : ∀ W, Tab W → Calls Tryz.prog 23 #[.int .i64 n, A4 V] W fun r w' => r = .returned (.tuple #[DV c s g x k, .int .i64 E]) ∧ Below W.heap.size W w') :
    Calls Tryz.prog 11 #[.int .i64 n, A4 V] w fun r w' => r = .returned (.tuple #[.string (B []), .int .i64 0, .int .i64 E]) ∧ Below w.heap.size w w' := by
  have hn0 : B [] = ⟨#[]⟩ := rfl
  have hsm := cell_set_map
  unfold DV A4 at *
  go_enter Tryz.func11, Tryz.ntmps11
  go_wp2_with (go_at_call 23; refine (c23 _ (hT.go bgo)).mono ?_; rintro r w1 ⟨rfl, hb1⟩; obtain ⟨hc1, hf1⟩ := bcell hb1; have hz1_0 : w.heap.size < w1.heap.size := lt_below hb1 ltg; have hl1_0 := Nat.le_of_lt hz1_0; have hA1 := bnext (w0 := w) bgo hb1; have hs1 := hA1.size; clear hb1)
  exact bodyPost_ret (v := .tuple #[.string ⟨#[]⟩, .int .i64 0, .int .i64 E]) (by simp only [results, Tryz.results11]; go_simp) rfl ⟨rfl, bgo⟩
variable (c23 : ∀ W, Tab W → Calls Tryz.prog 23 #[.int .i64 n, A4 V] W fun r w' => r = .returned (.tuple #[DV c s g x k, .int .i64 0]) ∧ Below W.heap.size W w')
include c23
set_option maxHeartbeats 2000000 in
theorem fx_c (hc : (c != 1) = true) :
    Calls Tryz.prog 11 #[.int .i64 n, A4 V] w fun r w' => r = .returned (.tuple #[.string (B []), .int .i64 0, .int .i64 6]) ∧ Below w.heap.size w w' := by
  have hn0 : B [] = ⟨#[]⟩ := rfl
  have hsm := cell_set_map
  unfold DV A4 at *
  go_enter Tryz.func11, Tryz.ntmps11
  go_wp2_with (go_at_call 23; refine (c23 _ (hT.go bgo)).mono ?_; rintro r w1 ⟨rfl, hb1⟩; obtain ⟨hc1, hf1⟩ := bcell hb1; have hz1_0 : w.heap.size < w1.heap.size := lt_below hb1 ltg; have hl1_0 := Nat.le_of_lt hz1_0; have hA1 := bnext (w0 := w) bgo hb1; have hs1 := hA1.size; clear hb1)
  exact bodyPost_ret (v := .tuple #[.string ⟨#[]⟩, .int .i64 0, .int .i64 6]) (by simp only [results, Tryz.results11]; go_simp) rfl ⟨rfl, bgo⟩
variable (hc : c = 1)
include hc
set_option maxHeartbeats 2000000 in
theorem fx_0 (c32 : ∀ W, Calls Tryz.prog 32 #[DV 1 s g x k] W fun r w' => r = .returned (.bool true) ∧ Below W.heap.size W w') :
    Calls Tryz.prog 11 #[.int .i64 n, A4 V] w fun r w' => r = .returned (.tuple #[.string (B []), .int .i64 0, .int .i64 6]) ∧ Below w.heap.size w w' := by
  subst hc
  have hn0 : B [] = ⟨#[]⟩ := rfl
  have hsm := cell_set_map
  unfold DV A4 at *
  go_enter Tryz.func11, Tryz.ntmps11
  go_wp2_with (first
    | (go_at_call 23; refine (c23 _ (hT.go bgo)).mono ?_; rintro r w1 ⟨rfl, hb1⟩; obtain ⟨hc1, hf1⟩ := bcell hb1; have hz1_0 : w.heap.size < w1.heap.size := lt_below hb1 ltg; have hl1_0 := Nat.le_of_lt hz1_0; have hA1 := bnext (w0 := w) bgo hb1; have hs1 := hA1.size; clear hb1)
    | (go_at_call 32; refine (c32 _).mono ?_; rintro r w2 ⟨rfl, hb2⟩; obtain ⟨hc2, hf2⟩ := bcell hb2; have hz2_0 : w.heap.size < w2.heap.size := lt_below hb2 ltg; have hl2_0 := Nat.le_of_lt hz2_0; have hz2_1 : w1.heap.size < w2.heap.size := lt_below hb2 ltg; have hl2_1 := Nat.le_of_lt hz2_1; have hA2 := bnext (w0 := w) bgo hb2; have hs2 := hA2.size; clear hb2))
  exact bodyPost_ret (v := .tuple #[.string ⟨#[]⟩, .int .i64 0, .int .i64 6]) (by simp only [results, Tryz.results11]; go_simp) rfl ⟨rfl, bgo⟩
set_option maxHeartbeats 2000000 in
theorem fx_k (X : Nat) (E : Int) (hE : -17000 ≤ E ∧ E ≤ 17000) (A D : List UInt8) (hA : A.length ≤ 100000) (hD : D.length ≤ 100000)
    (c32 : ∀ W, Calls Tryz.prog 32 #[DV 1 s g x k] W fun r w' => r = .returned (.bool false) ∧ Below W.heap.size W w')
    (c33 : ∀ W, Calls Tryz.prog 33 #[DV 1 s g x k] W fun r w' => ∃ v, r = .returned (.tuple #[v, .int .i64 E]) ∧ NT 2001 X v w' ∧ Below W.heap.size W w')
    (c34 : ∀ W v, NT 2001 X v W → Calls Tryz.prog 34 #[v] W fun r w' => r = .returned (.tuple #[.string (B A), .int .i64 0]) ∧ Below W.heap.size W w')
    (c35 : ∀ W, Calls Tryz.prog 35 #[.string (B A), .string ⟨#[48]⟩] W fun r w' => r = .returned (.string (B D)) ∧ W = w') :
    Calls Tryz.prog 11 #[.int .i64 n, A4 V] w fun r w' => r = .returned (.tuple #[.string (B D), .int .i64 (E + A.length - D.length), .int .i64 0]) ∧ Below w.heap.size w w' := by
  subst hc
  have hsm := cell_set_map
  have zA : (B A).size = A.length := B_size A
  have zD : (B D).size = D.length := B_size D
  unfold DV A4 at *
  go_enter Tryz.func11, Tryz.ntmps11
  go_wp2_with (first
    | (go_at_call 23; refine (c23 _ (hT.go bgo)).mono ?_; rintro r w1 ⟨rfl, hb1⟩; obtain ⟨hc1, hf1⟩ := bcell hb1; have hz1_0 : w.heap.size < w1.heap.size := lt_below hb1 ltg; have hl1_0 := Nat.le_of_lt hz1_0; have hA1 := bnext (w0 := w) bgo hb1; have hs1 := hA1.size; clear hb1)
    | (go_at_call 32; refine (c32 _).mono ?_; rintro r w2 ⟨rfl, hb2⟩; obtain ⟨hc2, hf2⟩ := bcell hb2; have hz2_0 : w.heap.size < w2.heap.size := lt_below hb2 ltg; have hl2_0 := Nat.le_of_lt hz2_0; have hz2_1 : w1.heap.size < w2.heap.size := lt_below hb2 ltg; have hl2_1 := Nat.le_of_lt hz2_1; have hA2 := bnext (w0 := w) bgo hb2; have hs2 := hA2.size; clear hb2)
    | (go_at_call 33; refine (c33 _).mono ?_; rintro r w3 ⟨v3, rfl, hv3, hb3⟩; obtain ⟨hc3, hf3⟩ := bcell hb3; have hz3_0 : w.heap.size < w3.heap.size := lt_below hb3 ltg; have hl3_0 := Nat.le_of_lt hz3_0; have hz3_1 : w1.heap.size < w3.heap.size := lt_below hb3 ltg; have hl3_1 := Nat.le_of_lt hz3_1; have hA3 := bnext (w0 := w) bgo hb3; have hs3 := hA3.size; clear hb3)
    | (go_at_call 34; refine (c34 _ _ hv3).mono ?_; rintro r w4 ⟨rfl, hb4⟩; obtain ⟨hc4, hf4⟩ := bcell hb4; have hz4_0 : w.heap.size < w4.heap.size := lt_below hb4 ltg; have hl4_0 := Nat.le_of_lt hz4_0; have hz4_1 : w1.heap.size < w4.heap.size := lt_below hb4 ltg; have hl4_1 := Nat.le_of_lt hz4_1; have hA4 := bnext (w0 := w) bgo hb4; have hs4 := hA4.size; clear hb4)
    | (go_at_call 35; refine (c35 _).mono ?_; rintro r w5 ⟨rfl, rfl⟩))
  exact bodyPost_ret (v := .tuple #[.string (B D), .int .i64 (E + A.length - D.length), .int .i64 0]) (by simp only [results, Tryz.results11]; go_simp) rfl ⟨rfl, bgo⟩
end
theorem fexact_n {n : Int} {V : Nat} (hV : V < 2 ^ 256) (hf : ¬ finP n V) (w : World) (hT : Tab w) : Calls Tryz.prog 11 #[.int .i64 n, A4 V] w fun r w' => r = .returned (.tuple #[.string (B []), .int .i64 0, .int .i64 (if goodN n V then 6 else 1)]) ∧ Below w.heap.size w w' := by
  have c23 := fun W hW => unpack_any n V W hW hV
  by_cases hg : goodN n V
  · rw [if_pos hg]
    rw [show unE n V = 0 from if_pos hg] at c23
    by_cases hc : (unD n V).c = 1
    · have hk : (unD n V).k = 0 := by
        by_cases hk : (unD n V).k = 0
        · exact hk
        · exact absurd ⟨hg, hc, hk⟩ hf
      refine fx_0 n V _ _ _ _ _ w hT c23 hc fun W => ?_
      have := fnone_v 1 (unD n V).s (unD n V).g (unD n V).x (unD n V).k W (by rw [hk]; decide)
      rw [decide_eq_true hk] at this
      exact this
    · exact fx_c n V _ _ _ _ _ w hT c23 (by simpa using hc)
  · rw [if_neg hg]
    rw [show unE n V = 1 from if_neg hg] at c23
    exact fx_e n V _ _ _ _ _ w hT 1 (by decide) c23
theorem fexact_k {n : Int} {V Y z : Nat} (hV : V < 2 ^ 256) (hf : finP n V) (hX : exX (unD n V).k (unD n V).x = Y * 10 ^ z) (hY : Y % 10 ≠ 0) (w : World) (hT : Tab w) :
    Calls Tryz.prog 11 #[.int .i64 n, A4 V] w fun r w' => r = .returned (.tuple #[.string (B (dcW Y)), .int .i64 (exA (unD n V).x + z), .int .i64 0]) ∧ Below w.heap.size w w' := by
  obtain ⟨hg, hc, hk⟩ := hf
  obtain ⟨hb, hkb, hx1, hx2, hD⟩ := fin_facts ⟨hg, hc, hk⟩
  have c23 := fun W hW => unpack_any n V W hW hV
  rw [show unE n V = 0 from if_pos hg] at c23
  have eD : (unD n V).v = DV 1 (unD n V).s (unD n V).g (unD n V).x (unD n V).k := by rw [← hc]
  rw [eD] at c23
  generalize (unD n V).s = s at *
  generalize (unD n V).g = g at *
  generalize (unD n V).x = x at *
  generalize (unD n V).k = k at *
  obtain ⟨T, l, eT, hl, _⟩ := dcW_last hY
  have hXb := ex_short hkb ⟨hx1, hx2⟩
  have hX0 := ex_ne hk x
  have lm := dcW_most hX0 hXb
  have eX : dcW (exX k x) = T ++ [l] ++ List.replicate z 48 := by rw [hX, dcW_zeros (by omega), eT]
  have hlen : T.length + 1 + z ≤ 11984 := by
    rw [eX] at lm
    simp only [List.length_append, List.length_cons, List.length_nil, List.length_replicate] at lm
    omega
  have hxA : -17000 ≤ exA x ∧ exA x ≤ 17000 := by unfold exA; split <;> omega
  have := fx_k n V 1 s g x k w hT c23 rfl (exX k x) (exA x) hxA (T ++ [l] ++ List.replicate z 48) (T ++ [l]) (by simp only [List.length_append, List.length_cons, List.length_nil, List.length_replicate]; omega) (by simp only [List.length_append, List.length_cons, List.length_nil]; omega) (fun W => by
    have := fnone_v 1 s g x k W hkb
    rw [decide_eq_false hk] at this
    exact this) (fun W => whole_v 1 s g x k W hkb (by omega)) (fun W v h => by
    have := ndig_nW (w := W) (v := v) (K := 2001) (by decide) (by omega) hX0 h.nt
    rw [eX] at this
    exact this) (fun W => trim_v hl z (by omega) W)
  rw [eT]
  have el : exA x + (((T ++ [l] ++ List.replicate z 48).length : Nat) : Int) - (((T ++ [l]).length : Nat) : Int) = exA x + (z : Int) := by
    simp only [List.length_append, List.length_cons, List.length_nil, List.length_replicate]
    omega
  rw [el] at this
  exact this
end Go.Proofs.YtogfiipmebgnjaaGreatDoor

namespace Go.Proofs.YtogfiipmebgnjaaGreatDoor
open Go.RowKit

attribute [local irreducible] W4
section
variable (n : Int) (V : Nat) (w : World) (hT : Tab w) (hT10 : Tb10 w)
  (c8 : ∀ W, Below w.heap.size w W → Calls Tryz.prog 8 #[] W fun r w' => r = .returned (.bool true) ∧ Below W.heap.size W w')
include hT hT10 c8
set_option maxHeartbeats 2000000 in
theorem law10_4 (T : List UInt8) (at_ : Int) (e : Int)
    (c11 : ∀ W, Tab W → Calls Tryz.prog 11 #[.int .i64 n, A4 V] W fun r w' => r = .returned (.tuple #[.string (B T), .int .i64 at_, .int .i64 e]) ∧ Below W.heap.size W w')
    (c12 : ∀ W, Calls Tryz.prog 12 #[.int .i64 n, A4 V] W fun r w' => r = .returned (.tuple #[.string (B T), .int .i64 at_, .int .i64 e]) ∧ Below W.heap.size W w') :
    Calls Tryz.prog 4 #[.int .i64 n, A4 V] w fun r w' => r = .returned (.bool true) ∧ Below w.heap.size w w' := by
  have hsm := cell_set_map
  unfold A4 at *
  go_enter Tryz.func4, Tryz.ntmps4
  go_wp2_with (first
    | (go_at_call 8; refine (c8 _ bgo).mono ?_; rintro r w1 ⟨rfl, hb1⟩; obtain ⟨hc1, hf1⟩ := bcell hb1; have hz1_0 : w.heap.size < w1.heap.size := lt_below hb1 ltg; have hl1_0 := Nat.le_of_lt hz1_0; have hA1 := bnext (w0 := w) bgo hb1; have hs1 := hA1.size; clear hb1)
    | (go_at_call 11; refine (c11 _ (hT.go bgo)).mono ?_; rintro r w2 ⟨rfl, hb2⟩; obtain ⟨hc2, hf2⟩ := bcell hb2; have hz2_0 : w.heap.size < w2.heap.size := lt_below hb2 ltg; have hl2_0 := Nat.le_of_lt hz2_0; have hA2 := bnext (w0 := w) bgo hb2; have hs2 := hA2.size; clear hb2)
    | (go_at_call 12; refine (c12 _).mono ?_; rintro r w3 ⟨rfl, hb3⟩; obtain ⟨hc3, hf3⟩ := bcell hb3; have hz3_0 : w.heap.size < w3.heap.size := lt_below hb3 ltg; have hl3_0 := Nat.le_of_lt hz3_0; have hA3 := bnext (w0 := w) bgo hb3; have hs3 := hA3.size; clear hb3))
  go_ret
  exact ⟨by simp, bgo⟩
end
theorem fixedExact_any (n : Int) (V : Nat) (w : World) (hT : Tab w) (hT10 : Tb10 w) (hV : V < 2 ^ 256) : Calls Tryz.prog 4 #[.int .i64 n, A4 V] w fun r w' => r = .returned (.bool true) ∧ Below w.heap.size w w' := by
  have c8 := fun W (hW : Below w.heap.size w W) => awake10 W (hT.go hW) (hT10.next hW)
  by_cases hf : finP n V
  · obtain ⟨Y, z, hX, hY⟩ := strip_ex (ex_ne hf.2.2 (unD n V).x)
    exact law10_4 n V w hT hT10 c8 _ _ 0 (fun W hW => fexact_k hV hf hX hY W hW) (fun W => exact10_k hV hf hX hY W)
  · exact law10_4 n V w hT hT10 c8 [] 0 _ (fun W hW => fexact_n hV hf W hW) (fun W => exact10_n hV hf W)
end Go.Proofs.YtogfiipmebgnjaaGreatDoor
