/-
  Texts that the proof leans on, joined: Hb, Hc, Xm.
-/
import Derived.Test.YtpfnfaekgaipjaaGreatDoorJ28
import Derived.Test.YtpfnfaekgaipjaaGreatDoorJ1
import Derived.Test.YtpfnfaekgaipjaaGreatDoorJ24
set_option linter.unusedVariables false
set_option linter.unusedSimpArgs false
set_option maxRecDepth 20000
set_option linter.unusedSectionVars false
namespace Go.Proofs.YtpfnfaekgaipjaaGreatDoor
open Go.RowKit

theorem itoa_any (e : Int) (w : World) (he : -9223372036854775808 ≤ e ∧ e ≤ 9223372036854775807) (hT : Tb10 w) :
    Calls Tryz.prog 26 #[.int .i64 e] w fun x w' => x = .returned (.string (B (Lib.itoa e))) ∧ Below w.heap.size w w' := by
  refine (Tryz.strconv_Itoa e he.1 he.2 w hT).mono ?_
  rintro x w' ⟨rfl, k, os, rfl⟩
  exact ⟨rfl, ⟨rfl, rfl, rfl, by show w.heap.size ≤ (w.heap ++ os).size; simp, fun b hb => by show (w.heap ++ os)[b]? = w.heap[b]?; rw [Array.getElem?_append_left hb]⟩⟩
set_option maxHeartbeats 2000000 in
theorem rx2_f (g : Bool) (d : List UInt8) (e : Int) (w : World) :
    Calls Tryz.prog 32 #[PV 2 false g d e] w fun x w' => x = .returned (.string (B ([] ++ [105, 110, 102]))) ∧ Below w.heap.size w w' := by
  have htl := B_toList
  have hsm := gcell_set_map
  have hn0 : B [] = ⟨#[]⟩ := rfl
  have p0 : (⟨#[]⟩ : ByteArray) ++ (⟨#[105, 110, 102]⟩ : ByteArray) = B ([] ++ [105, 110, 102]) := B_app ([]) ([105, 110, 102])
  have z0 : (B ([] ++ [105, 110, 102])).size = 3 := by rw [B_size]; simp only [List.length_append, List.length_cons, List.length_nil]; try omega
  generalize ([] ++ [105, 110, 102] : List UInt8) = L0 at *
  unfold PV
  go_enter Tryz.func32, Tryz.ntmps32
  go_wp2
  go_ret
  exact ⟨rfl, bgo⟩
set_option maxHeartbeats 2000000 in
theorem rx3_ff0 (e : Int) (w : World) :
    Calls Tryz.prog 32 #[PV 3 false false [] e] w fun x w' => x = .returned (.string (B ([] ++ [110, 97, 110]))) ∧ Below w.heap.size w w' := by
  have htl := B_toList
  have hsm := gcell_set_map
  have hn0 : B [] = ⟨#[]⟩ := rfl
  have p0 : (⟨#[]⟩ : ByteArray) ++ (⟨#[110, 97, 110]⟩ : ByteArray) = B ([] ++ [110, 97, 110]) := B_app ([]) ([110, 97, 110])
  have z0 : (B ([] ++ [110, 97, 110])).size = 3 := by rw [B_size]; simp only [List.length_append, List.length_cons, List.length_nil]; try omega
  generalize ([] ++ [110, 97, 110] : List UInt8) = L0 at *
  unfold PV
  go_enter Tryz.func32, Tryz.ntmps32
  go_wp2
  go_ret
  exact ⟨rfl, bgo⟩
set_option maxHeartbeats 2000000 in
theorem rx3_ff1 (y : UInt8) (ys : List UInt8) (hd : ys.length < 100000) (e : Int) (w : World) :
    Calls Tryz.prog 32 #[PV 3 false false (y :: ys) e] w fun x w' => x = .returned (.string (B (((([] ++ [110, 97, 110]) ++ [40]) ++ (y :: ys)) ++ [41]))) ∧ Below w.heap.size w w' := by
  have htl := B_toList
  have hsm := gcell_set_map
  have hsz : (B (y :: ys)).size = ys.length + 1 := B_size (y :: ys)
  have p0 : (⟨#[]⟩ : ByteArray) ++ (⟨#[110, 97, 110]⟩ : ByteArray) = B ([] ++ [110, 97, 110]) := B_app ([]) ([110, 97, 110])
  have z0 : (B ([] ++ [110, 97, 110])).size = 3 := by rw [B_size]; simp only [List.length_append, List.length_cons, List.length_nil]; try omega
  generalize ([] ++ [110, 97, 110] : List UInt8) = L0 at *
  have p1 : B L0 ++ (⟨#[40]⟩ : ByteArray) = B (L0 ++ [40]) := B_app (L0) ([40])
  have z1 : (B (L0 ++ [40])).size = 4 := by have h := z0; rw [B_size] at h ⊢; simp only [List.length_append, List.length_cons, List.length_nil]; omega
  generalize (L0 ++ [40] : List UInt8) = L1 at *
  have p2 : B L1 ++ B (y :: ys) = B (L1 ++ (y :: ys)) := B_app (L1) ((y :: ys))
  have z2 : (B (L1 ++ (y :: ys))).size = ys.length + 1 + 4 := by have h := z1; rw [B_size] at h ⊢; simp only [List.length_append, List.length_cons, List.length_nil]; omega
  generalize (L1 ++ (y :: ys) : List UInt8) = L2 at *
  have p3 : B L2 ++ (⟨#[41]⟩ : ByteArray) = B (L2 ++ [41]) := B_app (L2) ([41])
  have z3 : (B (L2 ++ [41])).size = ys.length + 1 + 5 := by have h := z2; rw [B_size] at h ⊢; simp only [List.length_append, List.length_cons, List.length_nil]; omega
  generalize (L2 ++ [41] : List UInt8) = L3 at *
  unfold PV
  go_enter Tryz.func32, Tryz.ntmps32
  go_wp2
  go_ret
  exact ⟨rfl, bgo⟩
set_option maxHeartbeats 2000000 in
theorem rx3_ft0 (e : Int) (w : World) :
    Calls Tryz.prog 32 #[PV 3 false true [] e] w fun x w' => x = .returned (.string (B (([] ++ [115]) ++ [110, 97, 110]))) ∧ Below w.heap.size w w' := by
  have htl := B_toList
  have hsm := gcell_set_map
  have hn0 : B [] = ⟨#[]⟩ := rfl
  have p0 : (⟨#[]⟩ : ByteArray) ++ (⟨#[115]⟩ : ByteArray) = B ([] ++ [115]) := B_app ([]) ([115])
  have z0 : (B ([] ++ [115])).size = 1 := by rw [B_size]; simp only [List.length_append, List.length_cons, List.length_nil]; try omega
  generalize ([] ++ [115] : List UInt8) = L0 at *
  have p1 : B L0 ++ (⟨#[110, 97, 110]⟩ : ByteArray) = B (L0 ++ [110, 97, 110]) := B_app (L0) ([110, 97, 110])
  have z1 : (B (L0 ++ [110, 97, 110])).size = 4 := by have h := z0; rw [B_size] at h ⊢; simp only [List.length_append, List.length_cons, List.length_nil]; omega
  generalize (L0 ++ [110, 97, 110] : List UInt8) = L1 at *
  unfold PV
  go_enter Tryz.func32, Tryz.ntmps32
  go_wp2
  go_ret
  exact ⟨rfl, bgo⟩
set_option maxHeartbeats 2000000 in
theorem rx3_ft1 (y : UInt8) (ys : List UInt8) (hd : ys.length < 100000) (e : Int) (w : World) :
    Calls Tryz.prog 32 #[PV 3 false true (y :: ys) e] w fun x w' => x = .returned (.string (B ((((([] ++ [115]) ++ [110, 97, 110]) ++ [40]) ++ (y :: ys)) ++ [41]))) ∧ Below w.heap.size w w' := by
  have htl := B_toList
  have hsm := gcell_set_map
  have hsz : (B (y :: ys)).size = ys.length + 1 := B_size (y :: ys)
  have p0 : (⟨#[]⟩ : ByteArray) ++ (⟨#[115]⟩ : ByteArray) = B ([] ++ [115]) := B_app ([]) ([115])
  have z0 : (B ([] ++ [115])).size = 1 := by rw [B_size]; simp only [List.length_append, List.length_cons, List.length_nil]; try omega
  generalize ([] ++ [115] : List UInt8) = L0 at *
  have p1 : B L0 ++ (⟨#[110, 97, 110]⟩ : ByteArray) = B (L0 ++ [110, 97, 110]) := B_app (L0) ([110, 97, 110])
  have z1 : (B (L0 ++ [110, 97, 110])).size = 4 := by have h := z0; rw [B_size] at h ⊢; simp only [List.length_append, List.length_cons, List.length_nil]; omega
  generalize (L0 ++ [110, 97, 110] : List UInt8) = L1 at *
  have p2 : B L1 ++ (⟨#[40]⟩ : ByteArray) = B (L1 ++ [40]) := B_app (L1) ([40])
  have z2 : (B (L1 ++ [40])).size = 5 := by have h := z1; rw [B_size] at h ⊢; simp only [List.length_append, List.length_cons, List.length_nil]; omega
  generalize (L1 ++ [40] : List UInt8) = L2 at *
  have p3 : B L2 ++ B (y :: ys) = B (L2 ++ (y :: ys)) := B_app (L2) ((y :: ys))
  have z3 : (B (L2 ++ (y :: ys))).size = ys.length + 1 + 5 := by have h := z2; rw [B_size] at h ⊢; simp only [List.length_append, List.length_cons, List.length_nil]; omega
  generalize (L2 ++ (y :: ys) : List UInt8) = L3 at *
  have p4 : B L3 ++ (⟨#[41]⟩ : ByteArray) = B (L3 ++ [41]) := B_app (L3) ([41])
  have z4 : (B (L3 ++ [41])).size = ys.length + 1 + 6 := by have h := z3; rw [B_size] at h ⊢; simp only [List.length_append, List.length_cons, List.length_nil]; omega
  generalize (L3 ++ [41] : List UInt8) = L4 at *
  unfold PV
  go_enter Tryz.func32, Tryz.ntmps32
  go_wp2
  go_ret
  exact ⟨rfl, bgo⟩
set_option maxHeartbeats 2000000 in
theorem rxo_f00 (g : Bool) (c : Int) (h2 : (c == 2) = false) (h3 : (c == 3) = false) (e : Int) (he0 : (e != 0) = true) (he : -9223372036854775808 ≤ e ∧ e ≤ 9223372036854775807) (w : World) (hT : Tb10 w) :
    Calls Tryz.prog 32 #[PV c false g [] e] w fun x w' => x = .returned (.string (B (((([] ++ [48]) ++ []) ++ [101]) ++ Lib.itoa e))) ∧ Below w.heap.size w w' := by
  have htl := B_toList
  have hsm := gcell_set_map
  have hn0 : B [] = ⟨#[]⟩ := rfl
  have hil := Lib.itoa_length_le e he.1 he.2
  have hisz := B_size (Lib.itoa e)
  have c38 := fun W (hb : Below w.heap.size w W) => itoa_any e W he (hT.next hb)
  have p0 : (⟨#[]⟩ : ByteArray) ++ (⟨#[48]⟩ : ByteArray) = B ([] ++ [48]) := B_app ([]) ([48])
  have z0 : (B ([] ++ [48])).size = 1 := by rw [B_size]; simp only [List.length_append, List.length_cons, List.length_nil]; try omega
  generalize ([] ++ [48] : List UInt8) = L0 at *
  have p1 : B L0 ++ (⟨#[]⟩ : ByteArray) = B (L0 ++ []) := B_app (L0) ([])
  have z1 : (B (L0 ++ [])).size = 1 := by have h := z0; rw [B_size] at h ⊢; simp only [List.length_append, List.length_cons, List.length_nil]; omega
  generalize (L0 ++ [] : List UInt8) = L1 at *
  have p2 : B L1 ++ (⟨#[101]⟩ : ByteArray) = B (L1 ++ [101]) := B_app (L1) ([101])
  have z2 : (B (L1 ++ [101])).size = 2 := by have h := z1; rw [B_size] at h ⊢; simp only [List.length_append, List.length_cons, List.length_nil]; omega
  generalize (L1 ++ [101] : List UInt8) = L2 at *
  have p3 : B L2 ++ B (Lib.itoa e) = B (L2 ++ Lib.itoa e) := B_app (L2) (Lib.itoa e)
  have z3 : (B (L2 ++ Lib.itoa e)).size = (Lib.itoa e).length + 2 := by have h := z2; rw [B_size] at h ⊢; simp only [List.length_append, List.length_cons, List.length_nil]; omega
  generalize (L2 ++ Lib.itoa e : List UInt8) = L3 at *
  unfold PV
  go_enter Tryz.func32, Tryz.ntmps32
  go_wp2_with (first | (go_at_call 26; refine (c38 _ bgo).mono ?_; rintro x w1 ⟨rfl, hb1⟩; obtain ⟨hc1, hf1⟩ := gbcell hb1; have hz1_0 : w.heap.size < w1.heap.size := glt_below hb1 ltg; have hl1_0 := Nat.le_of_lt hz1_0; have hA1 := gbnext (w0 := w) bgo hb1; have hs1 := hA1.size; clear hb1))
  go_ret
  exact ⟨rfl, bgo⟩
set_option maxHeartbeats 2000000 in
theorem rxo_f01 (g : Bool) (c : Int) (h2 : (c == 2) = false) (h3 : (c == 3) = false) (w : World) :
    Calls Tryz.prog 32 #[PV c false g [] 0] w fun x w' => x = .returned (.string (B (([] ++ [48]) ++ []))) ∧ Below w.heap.size w w' := by
  have htl := B_toList
  have hsm := gcell_set_map
  have hn0 : B [] = ⟨#[]⟩ := rfl
  have p0 : (⟨#[]⟩ : ByteArray) ++ (⟨#[48]⟩ : ByteArray) = B ([] ++ [48]) := B_app ([]) ([48])
  have z0 : (B ([] ++ [48])).size = 1 := by rw [B_size]; simp only [List.length_append, List.length_cons, List.length_nil]; try omega
  generalize ([] ++ [48] : List UInt8) = L0 at *
  have p1 : B L0 ++ (⟨#[]⟩ : ByteArray) = B (L0 ++ []) := B_app (L0) ([])
  have z1 : (B (L0 ++ [])).size = 1 := by have h := z0; rw [B_size] at h ⊢; simp only [List.length_append, List.length_cons, List.length_nil]; omega
  generalize (L0 ++ [] : List UInt8) = L1 at *
  unfold PV
  go_enter Tryz.func32, Tryz.ntmps32
  go_wp2
  go_ret
  exact ⟨rfl, bgo⟩
set_option maxHeartbeats 2000000 in
theorem rxo_f10 (g : Bool) (c : Int) (h2 : (c == 2) = false) (h3 : (c == 3) = false) (y : UInt8) (ys : List UInt8) (hd : ys.length < 100000) (e : Int) (he0 : (e != 0) = true) (he : -9223372036854775808 ≤ e ∧ e ≤ 9223372036854775807) (w : World) (hT : Tb10 w) :
    Calls Tryz.prog 32 #[PV c false g (y :: ys) e] w fun x w' => x = .returned (.string (B ((([] ++ (y :: ys)) ++ [101]) ++ Lib.itoa e))) ∧ Below w.heap.size w w' := by
  have htl := B_toList
  have hsm := gcell_set_map
  have hsz : (B (y :: ys)).size = ys.length + 1 := B_size (y :: ys)
  have hil := Lib.itoa_length_le e he.1 he.2
  have hisz := B_size (Lib.itoa e)
  have c38 := fun W (hb : Below w.heap.size w W) => itoa_any e W he (hT.next hb)
  have p0 : (⟨#[]⟩ : ByteArray) ++ B (y :: ys) = B ([] ++ (y :: ys)) := B_app ([]) ((y :: ys))
  have z0 : (B ([] ++ (y :: ys))).size = ys.length + 1 + 0 := by rw [B_size]; simp only [List.length_append, List.length_cons, List.length_nil]; try omega
  generalize ([] ++ (y :: ys) : List UInt8) = L0 at *
  have p1 : B L0 ++ (⟨#[101]⟩ : ByteArray) = B (L0 ++ [101]) := B_app (L0) ([101])
  have z1 : (B (L0 ++ [101])).size = ys.length + 1 + 1 := by have h := z0; rw [B_size] at h ⊢; simp only [List.length_append, List.length_cons, List.length_nil]; omega
  generalize (L0 ++ [101] : List UInt8) = L1 at *
  have p2 : B L1 ++ B (Lib.itoa e) = B (L1 ++ Lib.itoa e) := B_app (L1) (Lib.itoa e)
  have z2 : (B (L1 ++ Lib.itoa e)).size = ys.length + 1 + (Lib.itoa e).length + 1 := by have h := z1; rw [B_size] at h ⊢; simp only [List.length_append, List.length_cons, List.length_nil]; omega
  generalize (L1 ++ Lib.itoa e : List UInt8) = L2 at *
  unfold PV
  go_enter Tryz.func32, Tryz.ntmps32
  go_wp2_with (first | (go_at_call 26; refine (c38 _ bgo).mono ?_; rintro x w1 ⟨rfl, hb1⟩; obtain ⟨hc1, hf1⟩ := gbcell hb1; have hz1_0 : w.heap.size < w1.heap.size := glt_below hb1 ltg; have hl1_0 := Nat.le_of_lt hz1_0; have hA1 := gbnext (w0 := w) bgo hb1; have hs1 := hA1.size; clear hb1))
  go_ret
  exact ⟨rfl, bgo⟩
set_option maxHeartbeats 2000000 in
theorem rxo_f11 (g : Bool) (c : Int) (h2 : (c == 2) = false) (h3 : (c == 3) = false) (y : UInt8) (ys : List UInt8) (hd : ys.length < 100000) (w : World) :
    Calls Tryz.prog 32 #[PV c false g (y :: ys) 0] w fun x w' => x = .returned (.string (B ([] ++ (y :: ys)))) ∧ Below w.heap.size w w' := by
  have htl := B_toList
  have hsm := gcell_set_map
  have hsz : (B (y :: ys)).size = ys.length + 1 := B_size (y :: ys)
  have p0 : (⟨#[]⟩ : ByteArray) ++ B (y :: ys) = B ([] ++ (y :: ys)) := B_app ([]) ((y :: ys))
  have z0 : (B ([] ++ (y :: ys))).size = ys.length + 1 + 0 := by rw [B_size]; simp only [List.length_append, List.length_cons, List.length_nil]; try omega
  generalize ([] ++ (y :: ys) : List UInt8) = L0 at *
  unfold PV
  go_enter Tryz.func32, Tryz.ntmps32
  go_wp2
  go_ret
  exact ⟨rfl, bgo⟩
set_option maxHeartbeats 2000000 in
theorem rx2_t (g : Bool) (d : List UInt8) (e : Int) (w : World) :
    Calls Tryz.prog 32 #[PV 2 true g d e] w fun x w' => x = .returned (.string (B ([45] ++ [105, 110, 102]))) ∧ Below w.heap.size w w' := by
  have htl := B_toList
  have hsm := gcell_set_map
  have hn0 : B [] = ⟨#[]⟩ := rfl
  have p0 : (⟨#[45]⟩ : ByteArray) ++ (⟨#[105, 110, 102]⟩ : ByteArray) = B ([45] ++ [105, 110, 102]) := B_app ([45]) ([105, 110, 102])
  have z0 : (B ([45] ++ [105, 110, 102])).size = 4 := by rw [B_size]; simp only [List.length_append, List.length_cons, List.length_nil]; try omega
  generalize ([45] ++ [105, 110, 102] : List UInt8) = L0 at *
  unfold PV
  go_enter Tryz.func32, Tryz.ntmps32
  go_wp2
  go_ret
  exact ⟨rfl, bgo⟩
set_option maxHeartbeats 2000000 in
theorem rx3_tf0 (e : Int) (w : World) :
    Calls Tryz.prog 32 #[PV 3 true false [] e] w fun x w' => x = .returned (.string (B ([45] ++ [110, 97, 110]))) ∧ Below w.heap.size w w' := by
  have htl := B_toList
  have hsm := gcell_set_map
  have hn0 : B [] = ⟨#[]⟩ := rfl
  have p0 : (⟨#[45]⟩ : ByteArray) ++ (⟨#[110, 97, 110]⟩ : ByteArray) = B ([45] ++ [110, 97, 110]) := B_app ([45]) ([110, 97, 110])
  have z0 : (B ([45] ++ [110, 97, 110])).size = 4 := by rw [B_size]; simp only [List.length_append, List.length_cons, List.length_nil]; try omega
  generalize ([45] ++ [110, 97, 110] : List UInt8) = L0 at *
  unfold PV
  go_enter Tryz.func32, Tryz.ntmps32
  go_wp2
  go_ret
  exact ⟨rfl, bgo⟩
set_option maxHeartbeats 2000000 in
theorem rx3_tf1 (y : UInt8) (ys : List UInt8) (hd : ys.length < 100000) (e : Int) (w : World) :
    Calls Tryz.prog 32 #[PV 3 true false (y :: ys) e] w fun x w' => x = .returned (.string (B (((([45] ++ [110, 97, 110]) ++ [40]) ++ (y :: ys)) ++ [41]))) ∧ Below w.heap.size w w' := by
  have htl := B_toList
  have hsm := gcell_set_map
  have hsz : (B (y :: ys)).size = ys.length + 1 := B_size (y :: ys)
  have p0 : (⟨#[45]⟩ : ByteArray) ++ (⟨#[110, 97, 110]⟩ : ByteArray) = B ([45] ++ [110, 97, 110]) := B_app ([45]) ([110, 97, 110])
  have z0 : (B ([45] ++ [110, 97, 110])).size = 4 := by rw [B_size]; simp only [List.length_append, List.length_cons, List.length_nil]; try omega
  generalize ([45] ++ [110, 97, 110] : List UInt8) = L0 at *
  have p1 : B L0 ++ (⟨#[40]⟩ : ByteArray) = B (L0 ++ [40]) := B_app (L0) ([40])
  have z1 : (B (L0 ++ [40])).size = 5 := by have h := z0; rw [B_size] at h ⊢; simp only [List.length_append, List.length_cons, List.length_nil]; omega
  generalize (L0 ++ [40] : List UInt8) = L1 at *
  have p2 : B L1 ++ B (y :: ys) = B (L1 ++ (y :: ys)) := B_app (L1) ((y :: ys))
  have z2 : (B (L1 ++ (y :: ys))).size = ys.length + 1 + 5 := by have h := z1; rw [B_size] at h ⊢; simp only [List.length_append, List.length_cons, List.length_nil]; omega
  generalize (L1 ++ (y :: ys) : List UInt8) = L2 at *
  have p3 : B L2 ++ (⟨#[41]⟩ : ByteArray) = B (L2 ++ [41]) := B_app (L2) ([41])
  have z3 : (B (L2 ++ [41])).size = ys.length + 1 + 6 := by have h := z2; rw [B_size] at h ⊢; simp only [List.length_append, List.length_cons, List.length_nil]; omega
  generalize (L2 ++ [41] : List UInt8) = L3 at *
  unfold PV
  go_enter Tryz.func32, Tryz.ntmps32
  go_wp2
  go_ret
  exact ⟨rfl, bgo⟩
set_option maxHeartbeats 2000000 in
theorem rx3_tt0 (e : Int) (w : World) :
    Calls Tryz.prog 32 #[PV 3 true true [] e] w fun x w' => x = .returned (.string (B (([45] ++ [115]) ++ [110, 97, 110]))) ∧ Below w.heap.size w w' := by
  have htl := B_toList
  have hsm := gcell_set_map
  have hn0 : B [] = ⟨#[]⟩ := rfl
  have p0 : (⟨#[45]⟩ : ByteArray) ++ (⟨#[115]⟩ : ByteArray) = B ([45] ++ [115]) := B_app ([45]) ([115])
  have z0 : (B ([45] ++ [115])).size = 2 := by rw [B_size]; simp only [List.length_append, List.length_cons, List.length_nil]; try omega
  generalize ([45] ++ [115] : List UInt8) = L0 at *
  have p1 : B L0 ++ (⟨#[110, 97, 110]⟩ : ByteArray) = B (L0 ++ [110, 97, 110]) := B_app (L0) ([110, 97, 110])
  have z1 : (B (L0 ++ [110, 97, 110])).size = 5 := by have h := z0; rw [B_size] at h ⊢; simp only [List.length_append, List.length_cons, List.length_nil]; omega
  generalize (L0 ++ [110, 97, 110] : List UInt8) = L1 at *
  unfold PV
  go_enter Tryz.func32, Tryz.ntmps32
  go_wp2
  go_ret
  exact ⟨rfl, bgo⟩
set_option maxHeartbeats 2000000 in
theorem rx3_tt1 (y : UInt8) (ys : List UInt8) (hd : ys.length < 100000) (e : Int) (w : World) :
    Calls Tryz.prog 32 #[PV 3 true true (y :: ys) e] w fun x w' => x = .returned (.string (B ((((([45] ++ [115]) ++ [110, 97, 110]) ++ [40]) ++ (y :: ys)) ++ [41]))) ∧ Below w.heap.size w w' := by
  have htl := B_toList
  have hsm := gcell_set_map
  have hsz : (B (y :: ys)).size = ys.length + 1 := B_size (y :: ys)
  have p0 : (⟨#[45]⟩ : ByteArray) ++ (⟨#[115]⟩ : ByteArray) = B ([45] ++ [115]) := B_app ([45]) ([115])
  have z0 : (B ([45] ++ [115])).size = 2 := by rw [B_size]; simp only [List.length_append, List.length_cons, List.length_nil]; try omega
  generalize ([45] ++ [115] : List UInt8) = L0 at *
  have p1 : B L0 ++ (⟨#[110, 97, 110]⟩ : ByteArray) = B (L0 ++ [110, 97, 110]) := B_app (L0) ([110, 97, 110])
  have z1 : (B (L0 ++ [110, 97, 110])).size = 5 := by have h := z0; rw [B_size] at h ⊢; simp only [List.length_append, List.length_cons, List.length_nil]; omega
  generalize (L0 ++ [110, 97, 110] : List UInt8) = L1 at *
  have p2 : B L1 ++ (⟨#[40]⟩ : ByteArray) = B (L1 ++ [40]) := B_app (L1) ([40])
  have z2 : (B (L1 ++ [40])).size = 6 := by have h := z1; rw [B_size] at h ⊢; simp only [List.length_append, List.length_cons, List.length_nil]; omega
  generalize (L1 ++ [40] : List UInt8) = L2 at *
  have p3 : B L2 ++ B (y :: ys) = B (L2 ++ (y :: ys)) := B_app (L2) ((y :: ys))
  have z3 : (B (L2 ++ (y :: ys))).size = ys.length + 1 + 6 := by have h := z2; rw [B_size] at h ⊢; simp only [List.length_append, List.length_cons, List.length_nil]; omega
  generalize (L2 ++ (y :: ys) : List UInt8) = L3 at *
  have p4 : B L3 ++ (⟨#[41]⟩ : ByteArray) = B (L3 ++ [41]) := B_app (L3) ([41])
  have z4 : (B (L3 ++ [41])).size = ys.length + 1 + 7 := by have h := z3; rw [B_size] at h ⊢; simp only [List.length_append, List.length_cons, List.length_nil]; omega
  generalize (L3 ++ [41] : List UInt8) = L4 at *
  unfold PV
  go_enter Tryz.func32, Tryz.ntmps32
  go_wp2
  go_ret
  exact ⟨rfl, bgo⟩
set_option maxHeartbeats 2000000 in
theorem rxo_t00 (g : Bool) (c : Int) (h2 : (c == 2) = false) (h3 : (c == 3) = false) (e : Int) (he0 : (e != 0) = true) (he : -9223372036854775808 ≤ e ∧ e ≤ 9223372036854775807) (w : World) (hT : Tb10 w) :
    Calls Tryz.prog 32 #[PV c true g [] e] w fun x w' => x = .returned (.string (B (((([45] ++ [48]) ++ []) ++ [101]) ++ Lib.itoa e))) ∧ Below w.heap.size w w' := by
  have htl := B_toList
  have hsm := gcell_set_map
  have hn0 : B [] = ⟨#[]⟩ := rfl
  have hil := Lib.itoa_length_le e he.1 he.2
  have hisz := B_size (Lib.itoa e)
  have c38 := fun W (hb : Below w.heap.size w W) => itoa_any e W he (hT.next hb)
  have p0 : (⟨#[45]⟩ : ByteArray) ++ (⟨#[48]⟩ : ByteArray) = B ([45] ++ [48]) := B_app ([45]) ([48])
  have z0 : (B ([45] ++ [48])).size = 2 := by rw [B_size]; simp only [List.length_append, List.length_cons, List.length_nil]; try omega
  generalize ([45] ++ [48] : List UInt8) = L0 at *
  have p1 : B L0 ++ (⟨#[]⟩ : ByteArray) = B (L0 ++ []) := B_app (L0) ([])
  have z1 : (B (L0 ++ [])).size = 2 := by have h := z0; rw [B_size] at h ⊢; simp only [List.length_append, List.length_cons, List.length_nil]; omega
  generalize (L0 ++ [] : List UInt8) = L1 at *
  have p2 : B L1 ++ (⟨#[101]⟩ : ByteArray) = B (L1 ++ [101]) := B_app (L1) ([101])
  have z2 : (B (L1 ++ [101])).size = 3 := by have h := z1; rw [B_size] at h ⊢; simp only [List.length_append, List.length_cons, List.length_nil]; omega
  generalize (L1 ++ [101] : List UInt8) = L2 at *
  have p3 : B L2 ++ B (Lib.itoa e) = B (L2 ++ Lib.itoa e) := B_app (L2) (Lib.itoa e)
  have z3 : (B (L2 ++ Lib.itoa e)).size = (Lib.itoa e).length + 3 := by have h := z2; rw [B_size] at h ⊢; simp only [List.length_append, List.length_cons, List.length_nil]; omega
  generalize (L2 ++ Lib.itoa e : List UInt8) = L3 at *
  unfold PV
  go_enter Tryz.func32, Tryz.ntmps32
  go_wp2_with (first | (go_at_call 26; refine (c38 _ bgo).mono ?_; rintro x w1 ⟨rfl, hb1⟩; obtain ⟨hc1, hf1⟩ := gbcell hb1; have hz1_0 : w.heap.size < w1.heap.size := glt_below hb1 ltg; have hl1_0 := Nat.le_of_lt hz1_0; have hA1 := gbnext (w0 := w) bgo hb1; have hs1 := hA1.size; clear hb1))
  go_ret
  exact ⟨rfl, bgo⟩
set_option maxHeartbeats 2000000 in
theorem rxo_t01 (g : Bool) (c : Int) (h2 : (c == 2) = false) (h3 : (c == 3) = false) (w : World) :
    Calls Tryz.prog 32 #[PV c true g [] 0] w fun x w' => x = .returned (.string (B (([45] ++ [48]) ++ []))) ∧ Below w.heap.size w w' := by
  have htl := B_toList
  have hsm := gcell_set_map
  have hn0 : B [] = ⟨#[]⟩ := rfl
  have p0 : (⟨#[45]⟩ : ByteArray) ++ (⟨#[48]⟩ : ByteArray) = B ([45] ++ [48]) := B_app ([45]) ([48])
  have z0 : (B ([45] ++ [48])).size = 2 := by rw [B_size]; simp only [List.length_append, List.length_cons, List.length_nil]; try omega
  generalize ([45] ++ [48] : List UInt8) = L0 at *
  have p1 : B L0 ++ (⟨#[]⟩ : ByteArray) = B (L0 ++ []) := B_app (L0) ([])
  have z1 : (B (L0 ++ [])).size = 2 := by have h := z0; rw [B_size] at h ⊢; simp only [List.length_append, List.length_cons, List.length_nil]; omega
  generalize (L0 ++ [] : List UInt8) = L1 at *
  unfold PV
  go_enter Tryz.func32, Tryz.ntmps32
  go_wp2
  go_ret
  exact ⟨rfl, bgo⟩
set_option maxHeartbeats 2000000 in
theorem rxo_t10 (g : Bool) (c : Int) (h2 : (c == 2) = false) (h3 : (c == 3) = false) (y : UInt8) (ys : List UInt8) (hd : ys.length < 100000) (e : Int) (he0 : (e != 0) = true) (he : -9223372036854775808 ≤ e ∧ e ≤ 9223372036854775807) (w : World) (hT : Tb10 w) :
    Calls Tryz.prog 32 #[PV c true g (y :: ys) e] w fun x w' => x = .returned (.string (B ((([45] ++ (y :: ys)) ++ [101]) ++ Lib.itoa e))) ∧ Below w.heap.size w w' := by
  have htl := B_toList
  have hsm := gcell_set_map
  have hsz : (B (y :: ys)).size = ys.length + 1 := B_size (y :: ys)
  have hil := Lib.itoa_length_le e he.1 he.2
  have hisz := B_size (Lib.itoa e)
  have c38 := fun W (hb : Below w.heap.size w W) => itoa_any e W he (hT.next hb)
  have p0 : (⟨#[45]⟩ : ByteArray) ++ B (y :: ys) = B ([45] ++ (y :: ys)) := B_app ([45]) ((y :: ys))
  have z0 : (B ([45] ++ (y :: ys))).size = ys.length + 1 + 1 := by rw [B_size]; simp only [List.length_append, List.length_cons, List.length_nil]; try omega
  generalize ([45] ++ (y :: ys) : List UInt8) = L0 at *
  have p1 : B L0 ++ (⟨#[101]⟩ : ByteArray) = B (L0 ++ [101]) := B_app (L0) ([101])
  have z1 : (B (L0 ++ [101])).size = ys.length + 1 + 2 := by have h := z0; rw [B_size] at h ⊢; simp only [List.length_append, List.length_cons, List.length_nil]; omega
  generalize (L0 ++ [101] : List UInt8) = L1 at *
  have p2 : B L1 ++ B (Lib.itoa e) = B (L1 ++ Lib.itoa e) := B_app (L1) (Lib.itoa e)
  have z2 : (B (L1 ++ Lib.itoa e)).size = ys.length + 1 + (Lib.itoa e).length + 2 := by have h := z1; rw [B_size] at h ⊢; simp only [List.length_append, List.length_cons, List.length_nil]; omega
  generalize (L1 ++ Lib.itoa e : List UInt8) = L2 at *
  unfold PV
  go_enter Tryz.func32, Tryz.ntmps32
  go_wp2_with (first | (go_at_call 26; refine (c38 _ bgo).mono ?_; rintro x w1 ⟨rfl, hb1⟩; obtain ⟨hc1, hf1⟩ := gbcell hb1; have hz1_0 : w.heap.size < w1.heap.size := glt_below hb1 ltg; have hl1_0 := Nat.le_of_lt hz1_0; have hA1 := gbnext (w0 := w) bgo hb1; have hs1 := hA1.size; clear hb1))
  go_ret
  exact ⟨rfl, bgo⟩
set_option maxHeartbeats 2000000 in
theorem rxo_t11 (g : Bool) (c : Int) (h2 : (c == 2) = false) (h3 : (c == 3) = false) (y : UInt8) (ys : List UInt8) (hd : ys.length < 100000) (w : World) :
    Calls Tryz.prog 32 #[PV c true g (y :: ys) 0] w fun x w' => x = .returned (.string (B ([45] ++ (y :: ys)))) ∧ Below w.heap.size w w' := by
  have htl := B_toList
  have hsm := gcell_set_map
  have hsz : (B (y :: ys)).size = ys.length + 1 := B_size (y :: ys)
  have p0 : (⟨#[45]⟩ : ByteArray) ++ B (y :: ys) = B ([45] ++ (y :: ys)) := B_app ([45]) ((y :: ys))
  have z0 : (B ([45] ++ (y :: ys))).size = ys.length + 1 + 1 := by rw [B_size]; simp only [List.length_append, List.length_cons, List.length_nil]; try omega
  generalize ([45] ++ (y :: ys) : List UInt8) = L0 at *
  unfold PV
  go_enter Tryz.func32, Tryz.ntmps32
  go_wp2
  go_ret
  exact ⟨rfl, bgo⟩
theorem rtext_any (c : Int) (s g : Bool) (d : List UInt8) (e : Int) (w : World) (hd : d.length < 100000) (he : -9223372036854775808 ≤ e ∧ e ≤ 9223372036854775807) (hT : Tb10 w) :
    Calls Tryz.prog 32 #[PV c s g d e] w fun x w' => x = .returned (.string (B (texT c s g d e))) ∧ Below w.heap.size w w' := by
  by_cases h2 : c = 2
  · subst h2
    cases s
    · exact rx2_f g d e w
    · exact rx2_t g d e w
  · by_cases h3 : c = 3
    · subst h3
      by_cases h0 : d = []
      · subst h0
        cases s <;> cases g
        · exact rx3_ff0 e w
        · exact rx3_ft0 e w
        · exact rx3_tf0 e w
        · exact rx3_tt0 e w
      · obtain ⟨y, ys, rfl⟩ : ∃ y ys, d = y :: ys := by cases d with | nil => exact absurd rfl h0 | cons y ys => exact ⟨y, ys, rfl⟩
        have hx : ys.length < 100000 := by rw [List.length_cons] at hd; omega
        have q : ∀ s g, texT 3 s g (y :: ys) e = (if s then [45] else []) ++ ((if g then [115] else []) ++ ([110, 97, 110] ++ (40 :: ((y :: ys) ++ [41])))) := fun s g => by
          show _ ++ nanT g (y :: ys) = _
          unfold nanT; rw [if_neg h0]
        rw [q]
        cases s <;> cases g
        · have := rx3_ff1 y ys hx e w; simpa using this
        · have := rx3_ft1 y ys hx e w; simpa using this
        · have := rx3_tf1 y ys hx e w; simpa using this
        · have := rx3_tt1 y ys hx e w; simpa using this
    · have b2 := beq_eq_false_iff_ne.2 h2
      have b3 := beq_eq_false_iff_ne.2 h3
      have q : ∀ s, texT c s g d e = (if s then [45] else []) ++ (dgT d ++ exT e) := fun s => by
        unfold texT bodT; rw [if_neg h2, if_neg h3]; rfl
      rw [q]
      unfold dgT exT
      by_cases h0 : d = [] <;> by_cases h1 : e = 0
      · subst h0 h1
        cases s
        · exact rxo_f01 g c b2 b3 w
        · exact rxo_t01 g c b2 b3 w
      · subst h0
        rw [if_pos rfl, if_neg h1]
        cases s
        · have := rxo_f00 g c b2 b3 e (bne_iff_ne.2 h1) he w hT; simpa using this
        · have := rxo_t00 g c b2 b3 e (bne_iff_ne.2 h1) he w hT; simpa using this
      · subst h1
        obtain ⟨y, ys, rfl⟩ : ∃ y ys, d = y :: ys := by cases d with | nil => exact absurd rfl h0 | cons y ys => exact ⟨y, ys, rfl⟩
        have hx : ys.length < 100000 := by rw [List.length_cons] at hd; omega
        rw [if_neg h0, if_pos rfl]
        cases s
        · have := rxo_f11 g c b2 b3 y ys hx w; simpa using this
        · have := rxo_t11 g c b2 b3 y ys hx w; simpa using this
      · obtain ⟨y, ys, rfl⟩ : ∃ y ys, d = y :: ys := by cases d with | nil => exact absurd rfl h0 | cons y ys => exact ⟨y, ys, rfl⟩
        have hx : ys.length < 100000 := by rw [List.length_cons] at hd; omega
        rw [if_neg h0, if_neg h1]
        cases s
        · have := rxo_f10 g c b2 b3 y ys hx e (bne_iff_ne.2 h1) he w hT; simpa using this
        · have := rxo_t10 g c b2 b3 y ys hx e (bne_iff_ne.2 h1) he w hT; simpa using this
end Go.Proofs.YtpfnfaekgaipjaaGreatDoor

namespace Go.Proofs.YtpfnfaekgaipjaaGreatDoor
open Go.RowKit

set_option maxHeartbeats 2000000 in
theorem gd_1yn (s : Bool) (e : Int) (he1 : -1000000000 ≤ e) (he2 : e ≤ 1000000000) (T : List UInt8) (hT : (T.length : Int) ≤ 4000) (w : World)
    (c26 : ∀ W, Below w.heap.size w W → Calls Tryz.prog 32 #[PV 1 s false [] e] W fun x w' => x = .returned (.string (B T)) ∧ Below W.heap.size W w') :
    Calls Tryz.prog 31 #[PV 1 s false [] e] w fun x w' => x = .returned (.bool true) ∧ Below w.heap.size w w' := by
  have htl := B_toList
  have hsm := gcell_set_map
  have hn0 : B [] = ⟨#[]⟩ := rfl
  have hTz := B_size T
  unfold PV at c26
  unfold PV
  go_enter Tryz.func31, Tryz.ntmps31
  go_wp2_with (first | (go_at_call 32; refine (c26 _ bgo).mono ?_; rintro x w2 ⟨rfl, hb2⟩; obtain ⟨hc2, hf2⟩ := gbcell hb2; have hz2_0 : w.heap.size < w2.heap.size := glt_below hb2 ltg; have hl2_0 := Nat.le_of_lt hz2_0; have hA2 := gbnext (w0 := w) bgo hb2; have hs2 := hA2.size; clear hb2))
  go_ret
  exact ⟨rfl, bgo⟩
set_option maxHeartbeats 2000000 in
theorem gd_2yn (s : Bool)  (w : World) :
    Calls Tryz.prog 31 #[PV 2 s false [] 0] w fun x w' => x = .returned (.bool true) ∧ Below w.heap.size w w' := by
  have htl := B_toList
  have hsm := gcell_set_map
  have hn0 : B [] = ⟨#[]⟩ := rfl
  unfold PV
  go_enter Tryz.func31, Tryz.ntmps31
  go_wp2
  go_ret
  exact ⟨rfl, bgo⟩
set_option maxHeartbeats 2000000 in
theorem gd_3yn (s : Bool) (g : Bool) (T : List UInt8) (hT : (T.length : Int) ≤ 4000) (w : World)
    (c26 : ∀ W, Below w.heap.size w W → Calls Tryz.prog 32 #[PV 3 s g [] 0] W fun x w' => x = .returned (.string (B T)) ∧ Below W.heap.size W w') :
    Calls Tryz.prog 31 #[PV 3 s g [] 0] w fun x w' => x = .returned (.bool true) ∧ Below w.heap.size w w' := by
  have htl := B_toList
  have hsm := gcell_set_map
  have hn0 : B [] = ⟨#[]⟩ := rfl
  have hTz := B_size T
  unfold PV at c26
  unfold PV
  go_enter Tryz.func31, Tryz.ntmps31
  go_wp2_with (first | (go_at_call 32; refine (c26 _ bgo).mono ?_; rintro x w2 ⟨rfl, hb2⟩; obtain ⟨hc2, hf2⟩ := gbcell hb2; have hz2_0 : w.heap.size < w2.heap.size := glt_below hb2 ltg; have hl2_0 := Nat.le_of_lt hz2_0; have hA2 := gbnext (w0 := w) bgo hb2; have hs2 := hA2.size; clear hb2))
  go_ret
  exact ⟨rfl, bgo⟩
set_option maxHeartbeats 2000000 in
theorem gd_1yg (s : Bool) (y : UInt8) (ys : List UInt8) (hd : ys.length < 100000) (hi : isd (y :: ys) = true) (hy : ((y.toNat : Int) == 48) = false) (e : Int) (he1 : -1000000000 ≤ e) (he2 : e ≤ 1000000000) (T : List UInt8) (hT : (T.length : Int) ≤ 4000) (w : World)
    (c26 : ∀ W, Below w.heap.size w W → Calls Tryz.prog 32 #[PV 1 s false (y :: ys) e] W fun x w' => x = .returned (.string (B T)) ∧ Below W.heap.size W w') :
    Calls Tryz.prog 31 #[PV 1 s false (y :: ys) e] w fun x w' => x = .returned (.bool true) ∧ Below w.heap.size w w' := by
  have htl := B_toList
  have hsm := gcell_set_map
  have hsz : (B (y :: ys)).size = ys.length + 1 := B_size (y :: ys)
  have hsb := by_lt (l := y :: ys) (i := 0) (by rw [hsz]; omega)
  rw [by_zero] at hsb
  have hbd := y.toNat_lt
  have c34 := fun W => isd_any (y :: ys) W (by rw [List.length_cons]; omega)
  rw [hi] at c34
  have hTz := B_size T
  unfold PV at c26
  unfold PV
  go_enter Tryz.func31, Tryz.ntmps31
  go_wp2_with (first | (go_at_call 58; refine (c34 _).mono ?_; rintro x w1 ⟨rfl, hb1⟩; obtain ⟨hc1, hf1⟩ := gbcell hb1; have hz1_0 : w.heap.size < w1.heap.size := glt_below hb1 ltg; have hl1_0 := Nat.le_of_lt hz1_0; have hA1 := gbnext (w0 := w) bgo hb1; have hs1 := hA1.size; clear hb1) | (go_at_call 32; refine (c26 _ bgo).mono ?_; rintro x w2 ⟨rfl, hb2⟩; obtain ⟨hc2, hf2⟩ := gbcell hb2; have hz2_0 : w.heap.size < w2.heap.size := glt_below hb2 ltg; have hl2_0 := Nat.le_of_lt hz2_0; have hA2 := gbnext (w0 := w) bgo hb2; have hs2 := hA2.size; clear hb2))
  go_ret
  exact ⟨rfl, bgo⟩
set_option maxHeartbeats 2000000 in
theorem gd_3yg (s : Bool) (g : Bool) (y : UInt8) (ys : List UInt8) (hd : ys.length < 100000) (hi : isd (y :: ys) = true) (hy : ((y.toNat : Int) == 48) = false) (T : List UInt8) (hT : (T.length : Int) ≤ 4000) (w : World)
    (c26 : ∀ W, Below w.heap.size w W → Calls Tryz.prog 32 #[PV 3 s g (y :: ys) 0] W fun x w' => x = .returned (.string (B T)) ∧ Below W.heap.size W w') :
    Calls Tryz.prog 31 #[PV 3 s g (y :: ys) 0] w fun x w' => x = .returned (.bool true) ∧ Below w.heap.size w w' := by
  have htl := B_toList
  have hsm := gcell_set_map
  have hsz : (B (y :: ys)).size = ys.length + 1 := B_size (y :: ys)
  have hsb := by_lt (l := y :: ys) (i := 0) (by rw [hsz]; omega)
  rw [by_zero] at hsb
  have hbd := y.toNat_lt
  have c34 := fun W => isd_any (y :: ys) W (by rw [List.length_cons]; omega)
  rw [hi] at c34
  have hTz := B_size T
  unfold PV at c26
  unfold PV
  go_enter Tryz.func31, Tryz.ntmps31
  go_wp2_with (first | (go_at_call 58; refine (c34 _).mono ?_; rintro x w1 ⟨rfl, hb1⟩; obtain ⟨hc1, hf1⟩ := gbcell hb1; have hz1_0 : w.heap.size < w1.heap.size := glt_below hb1 ltg; have hl1_0 := Nat.le_of_lt hz1_0; have hA1 := gbnext (w0 := w) bgo hb1; have hs1 := hA1.size; clear hb1) | (go_at_call 32; refine (c26 _ bgo).mono ?_; rintro x w2 ⟨rfl, hb2⟩; obtain ⟨hc2, hf2⟩ := gbcell hb2; have hz2_0 : w.heap.size < w2.heap.size := glt_below hb2 ltg; have hl2_0 := Nat.le_of_lt hz2_0; have hA2 := gbnext (w0 := w) bgo hb2; have hs2 := hA2.size; clear hb2))
  go_ret
  exact ⟨rfl, bgo⟩
theorem head_ne {y : UInt8} {ys : List UInt8} (h : by_ (y :: ys) 0 ≠ 48) : ((y.toNat : Int) == 48) = false := by
  rw [by_zero] at h; exact beq_eq_false_iff_ne.2 h
theorem good_y (p : Prt) (w : World) (hd : p.dig.length < 100000) (he : -9223372036854775808 ≤ p.ex ∧ p.ex ≤ 9223372036854775807) (hT : Tb10 w) (h : gdP p) :
    Calls Tryz.prog 31 #[p.v] w fun x w' => x = .returned (.bool true) ∧ Below w.heap.size w w' := by
  have c26 := fun W (hb : Below w.heap.size w W) => rtext_any p.cls p.sg p.sn p.dig p.ex W hd he (hT.next hb)
  obtain ⟨c, s, g, d, e⟩ := p
  obtain ⟨hg, h⟩ := h
  show Calls Tryz.prog 31 #[PV c s g d e] w _
  dsimp only at c26 hd he hg h
  cases d with
  | nil =>
    rcases h with ⟨rfl, rfl, h3, h4⟩ | ⟨rfl, rfl, _, rfl⟩ | ⟨rfl, rfl, h4⟩
    · exact gd_1yn s e h3.1 h3.2 _ (by omega) w c26
    · exact gd_2yn s w
    · exact gd_3yn s g _ (by omega) w c26
  | cons y ys =>
    have hx : ys.length < 100000 := by rw [List.length_cons] at hd; omega
    rcases hg with hg | ⟨hi, hy⟩
    · cases hg
    · rcases h with ⟨rfl, rfl, h3, h4⟩ | ⟨rfl, rfl, h3, rfl⟩ | ⟨rfl, rfl, h4⟩
      · exact gd_1yg s y ys hx hi (head_ne hy) e h3.1 h3.2 _ (by omega) w c26
      · cases h3
      · exact gd_3yg s g y ys hx hi (head_ne hy) _ (by omega) w c26
set_option maxHeartbeats 2000000 in
theorem rjoin_y0 (c : Int) (s g : Bool) (d : List UInt8) (e : Int) (w : World) (T : List UInt8)
    (c25 : ∀ W, Below w.heap.size w W → Calls Tryz.prog 31 #[PV c s g d e] W fun x w' => x = .returned (.bool true) ∧ Below W.heap.size W w')
    (c26 : ∀ W, Below w.heap.size w W → Calls Tryz.prog 32 #[PV c s g d e] W fun x w' => x = .returned (.string (B T)) ∧ Below W.heap.size W w') :
    Calls Tryz.prog 17 #[PV c s g d e] w fun x w' => x = .returned (.tuple #[.string (B T), .int .i64 0]) ∧ Below w.heap.size w w' := by
  have htl := B_toList
  have hsm := gcell_set_map
  unfold PV at c25 c26 ⊢
  go_enter Tryz.func17, Tryz.ntmps17
  go_wp2_with (first | (go_at_call 31; refine (c25 _ bgo).mono ?_; rintro x w1 ⟨rfl, hb1⟩; obtain ⟨hc1, hf1⟩ := gbcell hb1; have hz1_0 : w.heap.size < w1.heap.size := glt_below hb1 ltg; have hl1_0 := Nat.le_of_lt hz1_0; have hA1 := gbnext (w0 := w) bgo hb1; have hs1 := hA1.size; clear hb1) | (go_at_call 32; refine (c26 _ bgo).mono ?_; rintro x w2 ⟨rfl, hb2⟩; obtain ⟨hc2, hf2⟩ := gbcell hb2; have hz2_0 : w.heap.size < w2.heap.size := glt_below hb2 ltg; have hl2_0 := Nat.le_of_lt hz2_0; have hA2 := gbnext (w0 := w) bgo hb2; have hs2 := hA2.size; clear hb2))
  go_ret2
  exact ⟨rfl, bgo⟩
theorem rjoin_y (p : Prt) (w : World) (hd : p.dig.length < 100000) (he : -9223372036854775808 ≤ p.ex ∧ p.ex ≤ 9223372036854775807) (hT : Tb10 w) (h : gdP p) :
    Calls Tryz.prog 17 #[p.v] w fun x w' => x = .returned (.tuple #[.string (B (texT p.cls p.sg p.sn p.dig p.ex)), .int .i64 0]) ∧ Below w.heap.size w w' :=
  rjoin_y0 _ _ _ _ _ w _ (fun W hb => good_y p W hd he (hT.next hb) h) (fun W hb => rtext_any _ _ _ _ _ W hd he (hT.next hb))
end Go.Proofs.YtpfnfaekgaipjaaGreatDoor

namespace Go.Proofs.YtpfnfaekgaipjaaGreatDoor
open Go.RowKit

theorem nr_shift (d : Int) (s : Bool) (N D a b : Nat) (k : Int) : nrC d s (N * 2 ^ a) (D * 2 ^ b) k = nrC d s N D (k + ((a : Int) - b)) ∧ (nrR (N * 2 ^ a) (D * 2 ^ b) k = 0 ↔ nrR N D (k + ((a : Int) - b)) = 0) := by
  have h := wh_sc d s N D (a + k.toNat) (b + (-k).toNat) (n := k + ((a : Int) - b)) (by omega)
  rw [Nat.pow_add, Nat.pow_add, ← Nat.mul_assoc, ← Nat.mul_assoc] at h
  exact h
theorem rX_shift {n : Int} {N D : Nat} (hN : N ≠ 0) (hD : D ≠ 0) (a b : Nat) (x : Int) : rX n (N * 2 ^ a) (D * 2 ^ b) x = rX n N D (x + ((a : Int) - b)) - ((a : Int) - b) := by
  unfold rX wiZ
  rw [ld_shift hN hD]
  omega
theorem rd_shift (n d : Int) (s : Bool) (N : Nat) {D : Nat} (hD : D ≠ 0) (a b : Nat) (x : Int) : rdV n d s (N * 2 ^ a) (D * 2 ^ b) x = rdV n d s N D (x + ((a : Int) - b)) ∧ rdF n d s (N * 2 ^ a) (D * 2 ^ b) x = rdF n d s N D (x + ((a : Int) - b)) := by
  by_cases hN : N = 0
  · subst hN
    rw [Nat.zero_mul]
    unfold rdV rdF
    rw [if_pos rfl, if_pos rfl, if_pos rfl, if_pos rfl]
    exact ⟨rfl, rfl⟩
  have hN' : N * 2 ^ a ≠ 0 := Nat.mul_ne_zero hN (Nat.pos_iff_ne_zero.1 (Nat.two_pow_pos _))
  have eX := rX_shift (n := n) hN hD a b x
  have eL := ld_shift hN hD a b
  have eQ : rQ n (N * 2 ^ a) (D * 2 ^ b) x = rQ n N D (x + ((a : Int) - b)) := by
    unfold rQ; rw [eX, eL]; congr 1; omega
  have hk := nr_shift d s N D a b (rX n (N * 2 ^ a) (D * 2 ^ b) x - rQ n (N * 2 ^ a) (D * 2 ^ b) x)
  rw [show rX n (N * 2 ^ a) (D * 2 ^ b) x - rQ n (N * 2 ^ a) (D * 2 ^ b) x + ((a : Int) - b) = rX n N D (x + ((a : Int) - b)) - rQ n N D (x + ((a : Int) - b)) by rw [eX, eQ]; omega] at hk
  have eC : rC n d s (N * 2 ^ a) (D * 2 ^ b) x = rC n d s N D (x + ((a : Int) - b)) := hk.1
  have eC' : rC' n d s (N * 2 ^ a) (D * 2 ^ b) x = rC' n d s N D (x + ((a : Int) - b)) := by unfold rC'; rw [eC]
  have eQ' : rQ' n d s (N * 2 ^ a) (D * 2 ^ b) x = rQ' n d s N D (x + ((a : Int) - b)) := by unfold rQ'; rw [eC, eQ]
  have eS : ld (N * 2 ^ a) (D * 2 ^ b) + rX n (N * 2 ^ a) (D * 2 ^ b) x = ld N D + rX n N D (x + ((a : Int) - b)) := by rw [eX, eL]; omega
  unfold rdV rdF
  rw [if_neg hN, if_neg hN, if_neg hN', if_neg hN', eC', eQ', eS]
  refine ⟨rfl, ?_⟩
  simp only [hk.2]
/-- the fraction of a number and a power of ten, its twos apart -/
def tN (A : Nat) (e : Int) : Nat := A * 5 ^ e.toNat
def tD (e : Int) : Nat := 5 ^ (-e).toNat
theorem tD_ne (e : Int) : tD e ≠ 0 := Nat.pos_iff_ne_zero.1 (Nat.pow_pos (by decide))
theorem p10_split (k : Nat) : 10 ^ k = 5 ^ k * 2 ^ k := by rw [← Nat.mul_pow]
/-- as the document has it: all in the fraction -/
theorem ten_shift (n d : Int) (s : Bool) (A : Nat) (e : Int) : rdV n d s (A * 10 ^ e.toNat) (10 ^ (-e).toNat) 0 = rdV n d s (tN A e) (tD e) e ∧ rdF n d s (A * 10 ^ e.toNat) (10 ^ (-e).toNat) 0 = rdF n d s (tN A e) (tD e) e := by
  have h := rd_shift n d s (tN A e) (tD_ne e) e.toNat (-e).toNat 0
  unfold tN tD at h ⊢
  rw [Nat.mul_assoc, ← p10_split, ← p10_split, show (0 : Int) + ((e.toNat : Int) - ((-e).toNat : Int)) = e by omega] at h
  exact h
/-- the exponent as the program takes it, and as the document does -/
def pwE (L : Nat) (e : Int) : Int := min (max e (-6000 - L)) (6000 - L)
end Go.Proofs.YtpfnfaekgaipjaaGreatDoor
