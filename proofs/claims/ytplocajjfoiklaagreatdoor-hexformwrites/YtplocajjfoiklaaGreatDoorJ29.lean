/-
  Texts that the proof leans on, joined: Hb, Xa.
-/
import Derived.Test.YtplocajjfoiklaaGreatDoorJ28
import Derived.Test.YtplocajjfoiklaaGreatDoorJ1
import Derived.Test.YtplocajjfoiklaaGreatDoorJ26
import Derived.Test.YtplocajjfoiklaaGreatDoorJ21
import Derived.Test.YtplocajjfoiklaaGreatDoorJ27
import Derived.Deep.Cut
import Derived.Deep.CutRange
import Derived.Test.YtplocajjfoiklaaGreatDoorJ2
import Derived.Test.YtplocajjfoiklaaGreatDoorJ6
import Derived.Test.YtplocajjfoiklaaGreatDoorJ4
import Derived.Deep.RegionWith
set_option linter.unusedVariables false
set_option linter.unusedSimpArgs false
set_option maxRecDepth 20000
set_option linter.unusedSectionVars false
namespace Go.Proofs.YtplocajjfoiklaaGreatDoor
open Go.RowKit

theorem itoa_any (e : Int) (w : World) (he : -9223372036854775808 ≤ e ∧ e ≤ 9223372036854775807) (hT : Tb10 w) :
    Calls Tryz.prog 31 #[.int .i64 e] w fun x w' => x = .returned (.string (B (Lib.itoa e))) ∧ Below w.heap.size w w' := by
  refine (Tryz.strconv_Itoa e he.1 he.2 w hT).mono ?_
  rintro x w' ⟨rfl, k, os, rfl⟩
  exact ⟨rfl, ⟨rfl, rfl, rfl, by show w.heap.size ≤ (w.heap ++ os).size; simp, fun b hb => by show (w.heap ++ os)[b]? = w.heap[b]?; rw [Array.getElem?_append_left hb]⟩⟩
set_option maxHeartbeats 2000000 in
theorem rx2_f (g : Bool) (d : List UInt8) (e : Int) (w : World) :
    Calls Tryz.prog 62 #[PV 2 false g d e] w fun x w' => x = .returned (.string (B ([] ++ [105, 110, 102]))) ∧ Below w.heap.size w w' := by
  have htl := B_toList
  have hsm := gcell_set_map
  have hn0 : B [] = ⟨#[]⟩ := rfl
  have p0 : (⟨#[]⟩ : ByteArray) ++ (⟨#[105, 110, 102]⟩ : ByteArray) = B ([] ++ [105, 110, 102]) := B_app ([]) ([105, 110, 102])
  have z0 : (B ([] ++ [105, 110, 102])).size = 3 := by rw [B_size]; simp only [List.length_append, List.length_cons, List.length_nil]; try omega
  generalize ([] ++ [105, 110, 102] : List UInt8) = L0 at *
  unfold PV
  go_enter Tryz.func62, Tryz.ntmps62
  go_wp2
  go_ret
  exact ⟨rfl, bgo⟩
set_option maxHeartbeats 2000000 in
theorem rx3_ff0 (e : Int) (w : World) :
    Calls Tryz.prog 62 #[PV 3 false false [] e] w fun x w' => x = .returned (.string (B ([] ++ [110, 97, 110]))) ∧ Below w.heap.size w w' := by
  have htl := B_toList
  have hsm := gcell_set_map
  have hn0 : B [] = ⟨#[]⟩ := rfl
  have p0 : (⟨#[]⟩ : ByteArray) ++ (⟨#[110, 97, 110]⟩ : ByteArray) = B ([] ++ [110, 97, 110]) := B_app ([]) ([110, 97, 110])
  have z0 : (B ([] ++ [110, 97, 110])).size = 3 := by rw [B_size]; simp only [List.length_append, List.length_cons, List.length_nil]; try omega
  generalize ([] ++ [110, 97, 110] : List UInt8) = L0 at *
  unfold PV
  go_enter Tryz.func62, Tryz.ntmps62
  go_wp2
  go_ret
  exact ⟨rfl, bgo⟩
set_option maxHeartbeats 2000000 in
theorem rx3_ff1 (y : UInt8) (ys : List UInt8) (hd : ys.length < 100000) (e : Int) (w : World) :
    Calls Tryz.prog 62 #[PV 3 false false (y :: ys) e] w fun x w' => x = .returned (.string (B (((([] ++ [110, 97, 110]) ++ [40]) ++ (y :: ys)) ++ [41]))) ∧ Below w.heap.size w w' := by
  have htl := B_toList
  have hsm := gcell_set_map
  have hsz : (B (y :: ys)).size = ys.length + 1 := B_size (y :: ys)
  have p0 : (⟨#[]⟩ : ByteArray) ++ (⟨#[110, 97, 110]⟩ : ByteArray) = B ([] ++ [110, 97, 110]) := B_app ([]) ([110, 97, 110])
  have z0 : (B ([] ++ [110, 97, 110])).size = 3 := by rw [B_size]; simp only [List.length_append, List.length_cons, List.length_nil]; try omega
  generalize ([] ++ [110, 97, 110] : List UInt8) = L0 at *
  have p1 : B L0 ++ (⟨#[40]⟩ : ByteArray) = B (L0 ++ [40]) := B_app (L0) ([40])
  have z1 : (B (L0 ++ [40])).size = 4 := by have h := z0; rw [B_size] at h ⊢; simp only [List.length_append, List.length_cons, List.length_nil]; omega
  generalize (L0 ++ [40] : List UInt8) = L1 at *
  have p2 : B L1 ++ B (y :: ys) = B (L1 ++ (y :: ys)) := B_app (L1) ((y :: ys))
  have z2 : (B (L1 ++ (y :: ys))).size = ys.length + 1 + 4 := by have h := z1; rw [B_size] at h ⊢; simp only [List.length_append, List.length_cons, List.length_nil]; omega
  generalize (L1 ++ (y :: ys) : List UInt8) = L2 at *
  have p3 : B L2 ++ (⟨#[41]⟩ : ByteArray) = B (L2 ++ [41]) := B_app (L2) ([41])
  have z3 : (B (L2 ++ [41])).size = ys.length + 1 + 5 := by have h := z2; rw [B_size] at h ⊢; simp only [List.length_append, List.length_cons, List.length_nil]; omega
  generalize (L2 ++ [41] : List UInt8) = L3 at *
  unfold PV
  go_enter Tryz.func62, Tryz.ntmps62
  go_wp2
  go_ret
  exact ⟨rfl, bgo⟩
set_option maxHeartbeats 2000000 in
theorem rx3_ft0 (e : Int) (w : World) :
    Calls Tryz.prog 62 #[PV 3 false true [] e] w fun x w' => x = .returned (.string (B (([] ++ [115]) ++ [110, 97, 110]))) ∧ Below w.heap.size w w' := by
  have htl := B_toList
  have hsm := gcell_set_map
  have hn0 : B [] = ⟨#[]⟩ := rfl
  have p0 : (⟨#[]⟩ : ByteArray) ++ (⟨#[115]⟩ : ByteArray) = B ([] ++ [115]) := B_app ([]) ([115])
  have z0 : (B ([] ++ [115])).size = 1 := by rw [B_size]; simp only [List.length_append, List.length_cons, List.length_nil]; try omega
  generalize ([] ++ [115] : List UInt8) = L0 at *
  have p1 : B L0 ++ (⟨#[110, 97, 110]⟩ : ByteArray) = B (L0 ++ [110, 97, 110]) := B_app (L0) ([110, 97, 110])
  have z1 : (B (L0 ++ [110, 97, 110])).size = 4 := by have h := z0; rw [B_size] at h ⊢; simp only [List.length_append, List.length_cons, List.length_nil]; omega
  generalize (L0 ++ [110, 97, 110] : List UInt8) = L1 at *
  unfold PV
  go_enter Tryz.func62, Tryz.ntmps62
  go_wp2
  go_ret
  exact ⟨rfl, bgo⟩
set_option maxHeartbeats 2000000 in
theorem rx3_ft1 (y : UInt8) (ys : List UInt8) (hd : ys.length < 100000) (e : Int) (w : World) :
    Calls Tryz.prog 62 #[PV 3 false true (y :: ys) e] w fun x w' => x = .returned (.string (B ((((([] ++ [115]) ++ [110, 97, 110]) ++ [40]) ++ (y :: ys)) ++ [41]))) ∧ Below w.heap.size w w' := by
  have htl := B_toList
  have hsm := gcell_set_map
  have hsz : (B (y :: ys)).size = ys.length + 1 := B_size (y :: ys)
  have p0 : (⟨#[]⟩ : ByteArray) ++ (⟨#[115]⟩ : ByteArray) = B ([] ++ [115]) := B_app ([]) ([115])
  have z0 : (B ([] ++ [115])).size = 1 := by rw [B_size]; simp only [List.length_append, List.length_cons, List.length_nil]; try omega
  generalize ([] ++ [115] : List UInt8) = L0 at *
  have p1 : B L0 ++ (⟨#[110, 97, 110]⟩ : ByteArray) = B (L0 ++ [110, 97, 110]) := B_app (L0) ([110, 97, 110])
  have z1 : (B (L0 ++ [110, 97, 110])).size = 4 := by have h := z0; rw [B_size] at h ⊢; simp only [List.length_append, List.length_cons, List.length_nil]; omega
  generalize (L0 ++ [110, 97, 110] : List UInt8) = L1 at *
  have p2 : B L1 ++ (⟨#[40]⟩ : ByteArray) = B (L1 ++ [40]) := B_app (L1) ([40])
  have z2 : (B (L1 ++ [40])).size = 5 := by have h := z1; rw [B_size] at h ⊢; simp only [List.length_append, List.length_cons, List.length_nil]; omega
  generalize (L1 ++ [40] : List UInt8) = L2 at *
  have p3 : B L2 ++ B (y :: ys) = B (L2 ++ (y :: ys)) := B_app (L2) ((y :: ys))
  have z3 : (B (L2 ++ (y :: ys))).size = ys.length + 1 + 5 := by have h := z2; rw [B_size] at h ⊢; simp only [List.length_append, List.length_cons, List.length_nil]; omega
  generalize (L2 ++ (y :: ys) : List UInt8) = L3 at *
  have p4 : B L3 ++ (⟨#[41]⟩ : ByteArray) = B (L3 ++ [41]) := B_app (L3) ([41])
  have z4 : (B (L3 ++ [41])).size = ys.length + 1 + 6 := by have h := z3; rw [B_size] at h ⊢; simp only [List.length_append, List.length_cons, List.length_nil]; omega
  generalize (L3 ++ [41] : List UInt8) = L4 at *
  unfold PV
  go_enter Tryz.func62, Tryz.ntmps62
  go_wp2
  go_ret
  exact ⟨rfl, bgo⟩
set_option maxHeartbeats 2000000 in
theorem rxo_f00 (g : Bool) (c : Int) (h2 : (c == 2) = false) (h3 : (c == 3) = false) (e : Int) (he0 : (e != 0) = true) (he : -9223372036854775808 ≤ e ∧ e ≤ 9223372036854775807) (w : World) (hT : Tb10 w) :
    Calls Tryz.prog 62 #[PV c false g [] e] w fun x w' => x = .returned (.string (B (((([] ++ [48]) ++ []) ++ [101]) ++ Lib.itoa e))) ∧ Below w.heap.size w w' := by
  have htl := B_toList
  have hsm := gcell_set_map
  have hn0 : B [] = ⟨#[]⟩ := rfl
  have hil := Lib.itoa_length_le e he.1 he.2
  have hisz := B_size (Lib.itoa e)
  have c38 := fun W (hb : Below w.heap.size w W) => itoa_any e W he (hT.next hb)
  have p0 : (⟨#[]⟩ : ByteArray) ++ (⟨#[48]⟩ : ByteArray) = B ([] ++ [48]) := B_app ([]) ([48])
  have z0 : (B ([] ++ [48])).size = 1 := by rw [B_size]; simp only [List.length_append, List.length_cons, List.length_nil]; try omega
  generalize ([] ++ [48] : List UInt8) = L0 at *
  have p1 : B L0 ++ (⟨#[]⟩ : ByteArray) = B (L0 ++ []) := B_app (L0) ([])
  have z1 : (B (L0 ++ [])).size = 1 := by have h := z0; rw [B_size] at h ⊢; simp only [List.length_append, List.length_cons, List.length_nil]; omega
  generalize (L0 ++ [] : List UInt8) = L1 at *
  have p2 : B L1 ++ (⟨#[101]⟩ : ByteArray) = B (L1 ++ [101]) := B_app (L1) ([101])
  have z2 : (B (L1 ++ [101])).size = 2 := by have h := z1; rw [B_size] at h ⊢; simp only [List.length_append, List.length_cons, List.length_nil]; omega
  generalize (L1 ++ [101] : List UInt8) = L2 at *
  have p3 : B L2 ++ B (Lib.itoa e) = B (L2 ++ Lib.itoa e) := B_app (L2) (Lib.itoa e)
  have z3 : (B (L2 ++ Lib.itoa e)).size = (Lib.itoa e).length + 2 := by have h := z2; rw [B_size] at h ⊢; simp only [List.length_append, List.length_cons, List.length_nil]; omega
  generalize (L2 ++ Lib.itoa e : List UInt8) = L3 at *
  unfold PV
  go_enter Tryz.func62, Tryz.ntmps62
  go_wp2_with (first | (go_at_call 31; refine (c38 _ bgo).mono ?_; rintro x w1 ⟨rfl, hb1⟩; obtain ⟨hc1, hf1⟩ := gbcell hb1; have hz1_0 : w.heap.size < w1.heap.size := glt_below hb1 ltg; have hl1_0 := Nat.le_of_lt hz1_0; have hA1 := gbnext (w0 := w) bgo hb1; have hs1 := hA1.size; clear hb1))
  go_ret
  exact ⟨rfl, bgo⟩
set_option maxHeartbeats 2000000 in
theorem rxo_f01 (g : Bool) (c : Int) (h2 : (c == 2) = false) (h3 : (c == 3) = false) (w : World) :
    Calls Tryz.prog 62 #[PV c false g [] 0] w fun x w' => x = .returned (.string (B (([] ++ [48]) ++ []))) ∧ Below w.heap.size w w' := by
  have htl := B_toList
  have hsm := gcell_set_map
  have hn0 : B [] = ⟨#[]⟩ := rfl
  have p0 : (⟨#[]⟩ : ByteArray) ++ (⟨#[48]⟩ : ByteArray) = B ([] ++ [48]) := B_app ([]) ([48])
  have z0 : (B ([] ++ [48])).size = 1 := by rw [B_size]; simp only [List.length_append, List.length_cons, List.length_nil]; try omega
  generalize ([] ++ [48] : List UInt8) = L0 at *
  have p1 : B L0 ++ (⟨#[]⟩ : ByteArray) = B (L0 ++ []) := B_app (L0) ([])
  have z1 : (B (L0 ++ [])).size = 1 := by have h := z0; rw [B_size] at h ⊢; simp only [List.length_append, List.length_cons, List.length_nil]; omega
  generalize (L0 ++ [] : List UInt8) = L1 at *
  unfold PV
  go_enter Tryz.func62, Tryz.ntmps62
  go_wp2
  go_ret
  exact ⟨rfl, bgo⟩
set_option maxHeartbeats 2000000 in
theorem rxo_f10 (g : Bool) (c : Int) (h2 : (c == 2) = false) (h3 : (c == 3) = false) (y : UInt8) (ys : List UInt8) (hd : ys.length < 100000) (e : Int) (he0 : (e != 0) = true) (he : -9223372036854775808 ≤ e ∧ e ≤ 9223372036854775807) (w : World) (hT : Tb10 w) :
    Calls Tryz.prog 62 #[PV c false g (y :: ys) e] w fun x w' => x = .returned (.string (B ((([] ++ (y :: ys)) ++ [101]) ++ Lib.itoa e))) ∧ Below w.heap.size w w' := by
  have htl := B_toList
  have hsm := gcell_set_map
  have hsz : (B (y :: ys)).size = ys.length + 1 := B_size (y :: ys)
  have hil := Lib.itoa_length_le e he.1 he.2
  have hisz := B_size (Lib.itoa e)
  have c38 := fun W (hb : Below w.heap.size w W) => itoa_any e W he (hT.next hb)
  have p0 : (⟨#[]⟩ : ByteArray) ++ B (y :: ys) = B ([] ++ (y :: ys)) := B_app ([]) ((y :: ys))
  have z0 : (B ([] ++ (y :: ys))).size = ys.length + 1 + 0 := by rw [B_size]; simp only [List.length_append, List.length_cons, List.length_nil]; try omega
  generalize ([] ++ (y :: ys) : List UInt8) = L0 at *
  have p1 : B L0 ++ (⟨#[101]⟩ : ByteArray) = B (L0 ++ [101]) := B_app (L0) ([101])
  have z1 : (B (L0 ++ [101])).size = ys.length + 1 + 1 := by have h := z0; rw [B_size] at h ⊢; simp only [List.length_append, List.length_cons, List.length_nil]; omega
  generalize (L0 ++ [101] : List UInt8) = L1 at *
  have p2 : B L1 ++ B (Lib.itoa e) = B (L1 ++ Lib.itoa e) := B_app (L1) (Lib.itoa e)
  have z2 : (B (L1 ++ Lib.itoa e)).size = ys.length + 1 + (Lib.itoa e).length + 1 := by have h := z1; rw [B_size] at h ⊢; simp only [List.length_append, List.length_cons, List.length_nil]; omega
  generalize (L1 ++ Lib.itoa e : List UInt8) = L2 at *
  unfold PV
  go_enter Tryz.func62, Tryz.ntmps62
  go_wp2_with (first | (go_at_call 31; refine (c38 _ bgo).mono ?_; rintro x w1 ⟨rfl, hb1⟩; obtain ⟨hc1, hf1⟩ := gbcell hb1; have hz1_0 : w.heap.size < w1.heap.size := glt_below hb1 ltg; have hl1_0 := Nat.le_of_lt hz1_0; have hA1 := gbnext (w0 := w) bgo hb1; have hs1 := hA1.size; clear hb1))
  go_ret
  exact ⟨rfl, bgo⟩
set_option maxHeartbeats 2000000 in
theorem rxo_f11 (g : Bool) (c : Int) (h2 : (c == 2) = false) (h3 : (c == 3) = false) (y : UInt8) (ys : List UInt8) (hd : ys.length < 100000) (w : World) :
    Calls Tryz.prog 62 #[PV c false g (y :: ys) 0] w fun x w' => x = .returned (.string (B ([] ++ (y :: ys)))) ∧ Below w.heap.size w w' := by
  have htl := B_toList
  have hsm := gcell_set_map
  have hsz : (B (y :: ys)).size = ys.length + 1 := B_size (y :: ys)
  have p0 : (⟨#[]⟩ : ByteArray) ++ B (y :: ys) = B ([] ++ (y :: ys)) := B_app ([]) ((y :: ys))
  have z0 : (B ([] ++ (y :: ys))).size = ys.length + 1 + 0 := by rw [B_size]; simp only [List.length_append, List.length_cons, List.length_nil]; try omega
  generalize ([] ++ (y :: ys) : List UInt8) = L0 at *
  unfold PV
  go_enter Tryz.func62, Tryz.ntmps62
  go_wp2
  go_ret
  exact ⟨rfl, bgo⟩
set_option maxHeartbeats 2000000 in
theorem rx2_t (g : Bool) (d : List UInt8) (e : Int) (w : World) :
    Calls Tryz.prog 62 #[PV 2 true g d e] w fun x w' => x = .returned (.string (B ([45] ++ [105, 110, 102]))) ∧ Below w.heap.size w w' := by
  have htl := B_toList
  have hsm := gcell_set_map
  have hn0 : B [] = ⟨#[]⟩ := rfl
  have p0 : (⟨#[45]⟩ : ByteArray) ++ (⟨#[105, 110, 102]⟩ : ByteArray) = B ([45] ++ [105, 110, 102]) := B_app ([45]) ([105, 110, 102])
  have z0 : (B ([45] ++ [105, 110, 102])).size = 4 := by rw [B_size]; simp only [List.length_append, List.length_cons, List.length_nil]; try omega
  generalize ([45] ++ [105, 110, 102] : List UInt8) = L0 at *
  unfold PV
  go_enter Tryz.func62, Tryz.ntmps62
  go_wp2
  go_ret
  exact ⟨rfl, bgo⟩
set_option maxHeartbeats 2000000 in
theorem rx3_tf0 (e : Int) (w : World) :
    Calls Tryz.prog 62 #[PV 3 true false [] e] w fun x w' => x = .returned (.string (B ([45] ++ [110, 97, 110]))) ∧ Below w.heap.size w w' := by
  have htl := B_toList
  have hsm := gcell_set_map
  have hn0 : B [] = ⟨#[]⟩ := rfl
  have p0 : (⟨#[45]⟩ : ByteArray) ++ (⟨#[110, 97, 110]⟩ : ByteArray) = B ([45] ++ [110, 97, 110]) := B_app ([45]) ([110, 97, 110])
  have z0 : (B ([45] ++ [110, 97, 110])).size = 4 := by rw [B_size]; simp only [List.length_append, List.length_cons, List.length_nil]; try omega
  generalize ([45] ++ [110, 97, 110] : List UInt8) = L0 at *
  unfold PV
  go_enter Tryz.func62, Tryz.ntmps62
  go_wp2
  go_ret
  exact ⟨rfl, bgo⟩
set_option maxHeartbeats 2000000 in
theorem rx3_tf1 (y : UInt8) (ys : List UInt8) (hd : ys.length < 100000) (e : Int) (w : World) :
    Calls Tryz.prog 62 #[PV 3 true false (y :: ys) e] w fun x w' => x = .returned (.string (B (((([45] ++ [110, 97, 110]) ++ [40]) ++ (y :: ys)) ++ [41]))) ∧ Below w.heap.size w w' := by
  have htl := B_toList
  have hsm := gcell_set_map
  have hsz : (B (y :: ys)).size = ys.length + 1 := B_size (y :: ys)
  have p0 : (⟨#[45]⟩ : ByteArray) ++ (⟨#[110, 97, 110]⟩ : ByteArray) = B ([45] ++ [110, 97, 110]) := B_app ([45]) ([110, 97, 110])
  have z0 : (B ([45] ++ [110, 97, 110])).size = 4 := by rw [B_size]; simp only [List.length_append, List.length_cons, List.length_nil]; try omega
  generalize ([45] ++ [110, 97, 110] : List UInt8) = L0 at *
  have p1 : B L0 ++ (⟨#[40]⟩ : ByteArray) = B (L0 ++ [40]) := B_app (L0) ([40])
  have z1 : (B (L0 ++ [40])).size = 5 := by have h := z0; rw [B_size] at h ⊢; simp only [List.length_append, List.length_cons, List.length_nil]; omega
  generalize (L0 ++ [40] : List UInt8) = L1 at *
  have p2 : B L1 ++ B (y :: ys) = B (L1 ++ (y :: ys)) := B_app (L1) ((y :: ys))
  have z2 : (B (L1 ++ (y :: ys))).size = ys.length + 1 + 5 := by have h := z1; rw [B_size] at h ⊢; simp only [List.length_append, List.length_cons, List.length_nil]; omega
  generalize (L1 ++ (y :: ys) : List UInt8) = L2 at *
  have p3 : B L2 ++ (⟨#[41]⟩ : ByteArray) = B (L2 ++ [41]) := B_app (L2) ([41])
  have z3 : (B (L2 ++ [41])).size = ys.length + 1 + 6 := by have h := z2; rw [B_size] at h ⊢; simp only [List.length_append, List.length_cons, List.length_nil]; omega
  generalize (L2 ++ [41] : List UInt8) = L3 at *
  unfold PV
  go_enter Tryz.func62, Tryz.ntmps62
  go_wp2
  go_ret
  exact ⟨rfl, bgo⟩
set_option maxHeartbeats 2000000 in
theorem rx3_tt0 (e : Int) (w : World) :
    Calls Tryz.prog 62 #[PV 3 true true [] e] w fun x w' => x = .returned (.string (B (([45] ++ [115]) ++ [110, 97, 110]))) ∧ Below w.heap.size w w' := by
  have htl := B_toList
  have hsm := gcell_set_map
  have hn0 : B [] = ⟨#[]⟩ := rfl
  have p0 : (⟨#[45]⟩ : ByteArray) ++ (⟨#[115]⟩ : ByteArray) = B ([45] ++ [115]) := B_app ([45]) ([115])
  have z0 : (B ([45] ++ [115])).size = 2 := by rw [B_size]; simp only [List.length_append, List.length_cons, List.length_nil]; try omega
  generalize ([45] ++ [115] : List UInt8) = L0 at *
  have p1 : B L0 ++ (⟨#[110, 97, 110]⟩ : ByteArray) = B (L0 ++ [110, 97, 110]) := B_app (L0) ([110, 97, 110])
  have z1 : (B (L0 ++ [110, 97, 110])).size = 5 := by have h := z0; rw [B_size] at h ⊢; simp only [List.length_append, List.length_cons, List.length_nil]; omega
  generalize (L0 ++ [110, 97, 110] : List UInt8) = L1 at *
  unfold PV
  go_enter Tryz.func62, Tryz.ntmps62
  go_wp2
  go_ret
  exact ⟨rfl, bgo⟩
set_option maxHeartbeats 2000000 in
theorem rx3_tt1 (y : UInt8) (ys : List UInt8) (hd : ys.length < 100000) (e : Int) (w : World) :
    Calls Tryz.prog 62 #[PV 3 true true (y :: ys) e] w fun x w' => x = .returned (.string (B ((((([45] ++ [115]) ++ [110, 97, 110]) ++ [40]) ++ (y :: ys)) ++ [41]))) ∧ Below w.heap.size w w' := by
  have htl := B_toList
  have hsm := gcell_set_map
  have hsz : (B (y :: ys)).size = ys.length + 1 := B_size (y :: ys)
  have p0 : (⟨#[45]⟩ : ByteArray) ++ (⟨#[115]⟩ : ByteArray) = B ([45] ++ [115]) := B_app ([45]) ([115])
  have z0 : (B ([45] ++ [115])).size = 2 := by rw [B_size]; simp only [List.length_append, List.length_cons, List.length_nil]; try omega
  generalize ([45] ++ [115] : List UInt8) = L0 at *
  have p1 : B L0 ++ (⟨#[110, 97, 110]⟩ : ByteArray) = B (L0 ++ [110, 97, 110]) := B_app (L0) ([110, 97, 110])
  have z1 : (B (L0 ++ [110, 97, 110])).size = 5 := by have h := z0; rw [B_size] at h ⊢; simp only [List.length_append, List.length_cons, List.length_nil]; omega
  generalize (L0 ++ [110, 97, 110] : List UInt8) = L1 at *
  have p2 : B L1 ++ (⟨#[40]⟩ : ByteArray) = B (L1 ++ [40]) := B_app (L1) ([40])
  have z2 : (B (L1 ++ [40])).size = 6 := by have h := z1; rw [B_size] at h ⊢; simp only [List.length_append, List.length_cons, List.length_nil]; omega
  generalize (L1 ++ [40] : List UInt8) = L2 at *
  have p3 : B L2 ++ B (y :: ys) = B (L2 ++ (y :: ys)) := B_app (L2) ((y :: ys))
  have z3 : (B (L2 ++ (y :: ys))).size = ys.length + 1 + 6 := by have h := z2; rw [B_size] at h ⊢; simp only [List.length_append, List.length_cons, List.length_nil]; omega
  generalize (L2 ++ (y :: ys) : List UInt8) = L3 at *
  have p4 : B L3 ++ (⟨#[41]⟩ : ByteArray) = B (L3 ++ [41]) := B_app (L3) ([41])
  have z4 : (B (L3 ++ [41])).size = ys.length + 1 + 7 := by have h := z3; rw [B_size] at h ⊢; simp only [List.length_append, List.length_cons, List.length_nil]; omega
  generalize (L3 ++ [41] : List UInt8) = L4 at *
  unfold PV
  go_enter Tryz.func62, Tryz.ntmps62
  go_wp2
  go_ret
  exact ⟨rfl, bgo⟩
set_option maxHeartbeats 2000000 in
theorem rxo_t00 (g : Bool) (c : Int) (h2 : (c == 2) = false) (h3 : (c == 3) = false) (e : Int) (he0 : (e != 0) = true) (he : -9223372036854775808 ≤ e ∧ e ≤ 9223372036854775807) (w : World) (hT : Tb10 w) :
    Calls Tryz.prog 62 #[PV c true g [] e] w fun x w' => x = .returned (.string (B (((([45] ++ [48]) ++ []) ++ [101]) ++ Lib.itoa e))) ∧ Below w.heap.size w w' := by
  have htl := B_toList
  have hsm := gcell_set_map
  have hn0 : B [] = ⟨#[]⟩ := rfl
  have hil := Lib.itoa_length_le e he.1 he.2
  have hisz := B_size (Lib.itoa e)
  have c38 := fun W (hb : Below w.heap.size w W) => itoa_any e W he (hT.next hb)
  have p0 : (⟨#[45]⟩ : ByteArray) ++ (⟨#[48]⟩ : ByteArray) = B ([45] ++ [48]) := B_app ([45]) ([48])
  have z0 : (B ([45] ++ [48])).size = 2 := by rw [B_size]; simp only [List.length_append, List.length_cons, List.length_nil]; try omega
  generalize ([45] ++ [48] : List UInt8) = L0 at *
  have p1 : B L0 ++ (⟨#[]⟩ : ByteArray) = B (L0 ++ []) := B_app (L0) ([])
  have z1 : (B (L0 ++ [])).size = 2 := by have h := z0; rw [B_size] at h ⊢; simp only [List.length_append, List.length_cons, List.length_nil]; omega
  generalize (L0 ++ [] : List UInt8) = L1 at *
  have p2 : B L1 ++ (⟨#[101]⟩ : ByteArray) = B (L1 ++ [101]) := B_app (L1) ([101])
  have z2 : (B (L1 ++ [101])).size = 3 := by have h := z1; rw [B_size] at h ⊢; simp only [List.length_append, List.length_cons, List.length_nil]; omega
  generalize (L1 ++ [101] : List UInt8) = L2 at *
  have p3 : B L2 ++ B (Lib.itoa e) = B (L2 ++ Lib.itoa e) := B_app (L2) (Lib.itoa e)
  have z3 : (B (L2 ++ Lib.itoa e)).size = (Lib.itoa e).length + 3 := by have h := z2; rw [B_size] at h ⊢; simp only [List.length_append, List.length_cons, List.length_nil]; omega
  generalize (L2 ++ Lib.itoa e : List UInt8) = L3 at *
  unfold PV
  go_enter Tryz.func62, Tryz.ntmps62
  go_wp2_with (first | (go_at_call 31; refine (c38 _ bgo).mono ?_; rintro x w1 ⟨rfl, hb1⟩; obtain ⟨hc1, hf1⟩ := gbcell hb1; have hz1_0 : w.heap.size < w1.heap.size := glt_below hb1 ltg; have hl1_0 := Nat.le_of_lt hz1_0; have hA1 := gbnext (w0 := w) bgo hb1; have hs1 := hA1.size; clear hb1))
  go_ret
  exact ⟨rfl, bgo⟩
set_option maxHeartbeats 2000000 in
theorem rxo_t01 (g : Bool) (c : Int) (h2 : (c == 2) = false) (h3 : (c == 3) = false) (w : World) :
    Calls Tryz.prog 62 #[PV c true g [] 0] w fun x w' => x = .returned (.string (B (([45] ++ [48]) ++ []))) ∧ Below w.heap.size w w' := by
  have htl := B_toList
  have hsm := gcell_set_map
  have hn0 : B [] = ⟨#[]⟩ := rfl
  have p0 : (⟨#[45]⟩ : ByteArray) ++ (⟨#[48]⟩ : ByteArray) = B ([45] ++ [48]) := B_app ([45]) ([48])
  have z0 : (B ([45] ++ [48])).size = 2 := by rw [B_size]; simp only [List.length_append, List.length_cons, List.length_nil]; try omega
  generalize ([45] ++ [48] : List UInt8) = L0 at *
  have p1 : B L0 ++ (⟨#[]⟩ : ByteArray) = B (L0 ++ []) := B_app (L0) ([])
  have z1 : (B (L0 ++ [])).size = 2 := by have h := z0; rw [B_size] at h ⊢; simp only [List.length_append, List.length_cons, List.length_nil]; omega
  generalize (L0 ++ [] : List UInt8) = L1 at *
  unfold PV
  go_enter Tryz.func62, Tryz.ntmps62
  go_wp2
  go_ret
  exact ⟨rfl, bgo⟩
set_option maxHeartbeats 2000000 in
theorem rxo_t10 (g : Bool) (c : Int) (h2 : (c == 2) = false) (h3 : (c == 3) = false) (y : UInt8) (ys : List UInt8) (hd : ys.length < 100000) (e : Int) (he0 : (e != 0) = true) (he : -9223372036854775808 ≤ e ∧ e ≤ 9223372036854775807) (w : World) (hT : Tb10 w) :
    Calls Tryz.prog 62 #[PV c true g (y :: ys) e] w fun x w' => x = .returned (.string (B ((([45] ++ (y :: ys)) ++ [101]) ++ Lib.itoa e))) ∧ Below w.heap.size w w' := by
  have htl := B_toList
  have hsm := gcell_set_map
  have hsz : (B (y :: ys)).size = ys.length + 1 := B_size (y :: ys)
  have hil := Lib.itoa_length_le e he.1 he.2
  have hisz := B_size (Lib.itoa e)
  have c38 := fun W (hb : Below w.heap.size w W) => itoa_any e W he (hT.next hb)
  have p0 : (⟨#[45]⟩ : ByteArray) ++ B (y :: ys) = B ([45] ++ (y :: ys)) := B_app ([45]) ((y :: ys))
  have z0 : (B ([45] ++ (y :: ys))).size = ys.length + 1 + 1 := by rw [B_size]; simp only [List.length_append, List.length_cons, List.length_nil]; try omega
  generalize ([45] ++ (y :: ys) : List UInt8) = L0 at *
  have p1 : B L0 ++ (⟨#[101]⟩ : ByteArray) = B (L0 ++ [101]) := B_app (L0) ([101])
  have z1 : (B (L0 ++ [101])).size = ys.length + 1 + 2 := by have h := z0; rw [B_size] at h ⊢; simp only [List.length_append, List.length_cons, List.length_nil]; omega
  generalize (L0 ++ [101] : List UInt8) = L1 at *
  have p2 : B L1 ++ B (Lib.itoa e) = B (L1 ++ Lib.itoa e) := B_app (L1) (Lib.itoa e)
  have z2 : (B (L1 ++ Lib.itoa e)).size = ys.length + 1 + (Lib.itoa e).length + 2 := by have h := z1; rw [B_size] at h ⊢; simp only [List.length_append, List.length_cons, List.length_nil]; omega
  generalize (L1 ++ Lib.itoa e : List UInt8) = L2 at *
  unfold PV
  go_enter Tryz.func62, Tryz.ntmps62
  go_wp2_with (first | (go_at_call 31; refine (c38 _ bgo).mono ?_; rintro x w1 ⟨rfl, hb1⟩; obtain ⟨hc1, hf1⟩ := gbcell hb1; have hz1_0 : w.heap.size < w1.heap.size := glt_below hb1 ltg; have hl1_0 := Nat.le_of_lt hz1_0; have hA1 := gbnext (w0 := w) bgo hb1; have hs1 := hA1.size; clear hb1))
  go_ret
  exact ⟨rfl, bgo⟩
set_option maxHeartbeats 2000000 in
theorem rxo_t11 (g : Bool) (c : Int) (h2 : (c == 2) = false) (h3 : (c == 3) = false) (y : UInt8) (ys : List UInt8) (hd : ys.length < 100000) (w : World) :
    Calls Tryz.prog 62 #[PV c true g (y :: ys) 0] w fun x w' => x = .returned (.string (B ([45] ++ (y :: ys)))) ∧ Below w.heap.size w w' := by
  have htl := B_toList
  have hsm := gcell_set_map
  have hsz : (B (y :: ys)).size = ys.length + 1 := B_size (y :: ys)
  have p0 : (⟨#[45]⟩ : ByteArray) ++ B (y :: ys) = B ([45] ++ (y :: ys)) := B_app ([45]) ((y :: ys))
  have z0 : (B ([45] ++ (y :: ys))).size = ys.length + 1 + 1 := by rw [B_size]; simp only [List.length_append, List.length_cons, List.length_nil]; try omega
  generalize ([45] ++ (y :: ys) : List UInt8) = L0 at *
  unfold PV
  go_enter Tryz.func62, Tryz.ntmps62
  go_wp2
  go_ret
  exact ⟨rfl, bgo⟩
theorem rtext_any (c : Int) (s g : Bool) (d : List UInt8) (e : Int) (w : World) (hd : d.length < 100000) (he : -9223372036854775808 ≤ e ∧ e ≤ 9223372036854775807) (hT : Tb10 w) :
    Calls Tryz.prog 62 #[PV c s g d e] w fun x w' => x = .returned (.string (B (texT c s g d e))) ∧ Below w.heap.size w w' := by
  by_cases h2 : c = 2
  · subst h2
    cases s
    · exact rx2_f g d e w
    · exact rx2_t g d e w
  · by_cases h3 : c = 3
    · subst h3
      by_cases h0 : d = []
      · subst h0
        cases s <;> cases g
        · exact rx3_ff0 e w
        · exact rx3_ft0 e w
        · exact rx3_tf0 e w
        · exact rx3_tt0 e w
      · obtain ⟨y, ys, rfl⟩ : ∃ y ys, d = y :: ys := by cases d with | nil => exact absurd rfl h0 | cons y ys => exact ⟨y, ys, rfl⟩
        have hx : ys.length < 100000 := by rw [List.length_cons] at hd; omega
        have q : ∀ s g, texT 3 s g (y :: ys) e = (if s then [45] else []) ++ ((if g then [115] else []) ++ ([110, 97, 110] ++ (40 :: ((y :: ys) ++ [41])))) := fun s g => by
          show _ ++ nanT g (y :: ys) = _
          unfold nanT; rw [if_neg h0]
        rw [q]
        cases s <;> cases g
        · have := rx3_ff1 y ys hx e w; simpa using this
        · have := rx3_ft1 y ys hx e w; simpa using this
        · have := rx3_tf1 y ys hx e w; simpa using this
        · have := rx3_tt1 y ys hx e w; simpa using this
    · have b2 := beq_eq_false_iff_ne.2 h2
      have b3 := beq_eq_false_iff_ne.2 h3
      have q : ∀ s, texT c s g d e = (if s then [45] else []) ++ (dgT d ++ exT e) := fun s => by
        unfold texT bodT; rw [if_neg h2, if_neg h3]; rfl
      rw [q]
      unfold dgT exT
      by_cases h0 : d = [] <;> by_cases h1 : e = 0
      · subst h0 h1
        cases s
        · exact rxo_f01 g c b2 b3 w
        · exact rxo_t01 g c b2 b3 w
      · subst h0
        rw [if_pos rfl, if_neg h1]
        cases s
        · have := rxo_f00 g c b2 b3 e (bne_iff_ne.2 h1) he w hT; simpa using this
        · have := rxo_t00 g c b2 b3 e (bne_iff_ne.2 h1) he w hT; simpa using this
      · subst h1
        obtain ⟨y, ys, rfl⟩ : ∃ y ys, d = y :: ys := by cases d with | nil => exact absurd rfl h0 | cons y ys => exact ⟨y, ys, rfl⟩
        have hx : ys.length < 100000 := by rw [List.length_cons] at hd; omega
        rw [if_neg h0, if_pos rfl]
        cases s
        · have := rxo_f11 g c b2 b3 y ys hx w; simpa using this
        · have := rxo_t11 g c b2 b3 y ys hx w; simpa using this
      · obtain ⟨y, ys, rfl⟩ : ∃ y ys, d = y :: ys := by cases d with | nil => exact absurd rfl h0 | cons y ys => exact ⟨y, ys, rfl⟩
        have hx : ys.length < 100000 := by rw [List.length_cons] at hd; omega
        rw [if_neg h0, if_neg h1]
        cases s
        · have := rxo_f10 g c b2 b3 y ys hx e (bne_iff_ne.2 h1) he w hT; simpa using this
        · have := rxo_t10 g c b2 b3 y ys hx e (bne_iff_ne.2 h1) he w hT; simpa using this
end Go.Proofs.YtplocajjfoiklaaGreatDoor

namespace Go.Proofs.YtplocajjfoiklaaGreatDoor
open Go.RowKit

theorem cpy1 (W : World) (g b off cap : Nat) (v0 : Int) (h0 : W.cell? ⟨b, off, none⟩ = some (.int .u64 v0)) (c0 : (W.cell? ⟨g, 0, none⟩).isSome = true) (f0 : W.frozen? ⟨g, 0, none⟩ = false) :
    Sem.run Tryz.prog (Builtin.copy_ #[49, 49] 3 #[.slice (some ⟨g, 0, none⟩) 4 4, .slice (some ⟨b, off, none⟩) 1 cap]) W = .ok (.int .i64 1) (W.setCell ⟨g, 0, none⟩ (.int .u64 v0)) := by
  have := run_copy_cells (P := Tryz.prog) W 49 49 3 22 g 0 4 4 ⟨b, off, none⟩ 1 cap [.int .u64 v0] Tryz.underlying49 (by kernel_rfl) rfl ?_ ?_ ?_ ?_
  · exact this
  · intro j v
    match j, v with
    | 0, _ => intro h; cases h; simpa [Addr.add] using h0
    | (j + 1), _ => intro h; simp at h
  · intro j hj
    match j, hj with
    | 0, _ => simpa using c0
    | (j + 1), h => exact absurd h (by simp only [List.length_cons, List.length_nil]; omega)
  · intro j hj
    match j, hj with
    | 0, _ => simpa using f0
    | (j + 1), h => exact absurd h (by simp only [List.length_cons, List.length_nil]; omega)
  · intro v hv
    simp at hv
    first | (subst hv; rfl) | (rcases hv with rfl | rfl <;> rfl) | (rcases hv with rfl | rfl | rfl <;> rfl) | (rcases hv with rfl | rfl | rfl | rfl <;> rfl)
theorem cpy2 (W : World) (g b off cap : Nat) (v0 v1 : Int) (h0 : W.cell? ⟨b, off, none⟩ = some (.int .u64 v0)) (h1 : W.cell? ⟨b, off + 1, none⟩ = some (.int .u64 v1)) (c0 : (W.cell? ⟨g, 0, none⟩).isSome = true) (f0 : W.frozen? ⟨g, 0, none⟩ = false) (c1 : (W.cell? ⟨g, 1, none⟩).isSome = true) (f1 : W.frozen? ⟨g, 1, none⟩ = false) :
    Sem.run Tryz.prog (Builtin.copy_ #[49, 49] 3 #[.slice (some ⟨g, 0, none⟩) 4 4, .slice (some ⟨b, off, none⟩) 2 cap]) W = .ok (.int .i64 2) ((W.setCell ⟨g, 0, none⟩ (.int .u64 v0)).setCell ⟨g, 1, none⟩ (.int .u64 v1)) := by
  have := run_copy_cells (P := Tryz.prog) W 49 49 3 22 g 0 4 4 ⟨b, off, none⟩ 2 cap [.int .u64 v0, .int .u64 v1] Tryz.underlying49 (by kernel_rfl) rfl ?_ ?_ ?_ ?_
  · exact this
  · intro j v
    match j, v with
    | 0, _ => intro h; cases h; simpa [Addr.add] using h0
    | 1, _ => intro h; cases h; simpa [Addr.add] using h1
    | (j + 2), _ => intro h; simp at h
  · intro j hj
    match j, hj with
    | 0, _ => simpa using c0
    | 1, _ => simpa using c1
    | (j + 2), h => exact absurd h (by simp only [List.length_cons, List.length_nil]; omega)
  · intro j hj
    match j, hj with
    | 0, _ => simpa using f0
    | 1, _ => simpa using f1
    | (j + 2), h => exact absurd h (by simp only [List.length_cons, List.length_nil]; omega)
  · intro v hv
    simp at hv
    first | (subst hv; rfl) | (rcases hv with rfl | rfl <;> rfl) | (rcases hv with rfl | rfl | rfl <;> rfl) | (rcases hv with rfl | rfl | rfl | rfl <;> rfl)
theorem cpy3 (W : World) (g b off cap : Nat) (v0 v1 v2 : Int) (h0 : W.cell? ⟨b, off, none⟩ = some (.int .u64 v0)) (h1 : W.cell? ⟨b, off + 1, none⟩ = some (.int .u64 v1)) (h2 : W.cell? ⟨b, off + 2, none⟩ = some (.int .u64 v2)) (c0 : (W.cell? ⟨g, 0, none⟩).isSome = true) (f0 : W.frozen? ⟨g, 0, none⟩ = false) (c1 : (W.cell? ⟨g, 1, none⟩).isSome = true) (f1 : W.frozen? ⟨g, 1, none⟩ = false) (c2 : (W.cell? ⟨g, 2, none⟩).isSome = true) (f2 : W.frozen? ⟨g, 2, none⟩ = false) :
    Sem.run Tryz.prog (Builtin.copy_ #[49, 49] 3 #[.slice (some ⟨g, 0, none⟩) 4 4, .slice (some ⟨b, off, none⟩) 3 cap]) W = .ok (.int .i64 3) (((W.setCell ⟨g, 0, none⟩ (.int .u64 v0)).setCell ⟨g, 1, none⟩ (.int .u64 v1)).setCell ⟨g, 2, none⟩ (.int .u64 v2)) := by
  have := run_copy_cells (P := Tryz.prog) W 49 49 3 22 g 0 4 4 ⟨b, off, none⟩ 3 cap [.int .u64 v0, .int .u64 v1, .int .u64 v2] Tryz.underlying49 (by kernel_rfl) rfl ?_ ?_ ?_ ?_
  · exact this
  · intro j v
    match j, v with
    | 0, _ => intro h; cases h; simpa [Addr.add] using h0
    | 1, _ => intro h; cases h; simpa [Addr.add] using h1
    | 2, _ => intro h; cases h; simpa [Addr.add] using h2
    | (j + 3), _ => intro h; simp at h
  · intro j hj
    match j, hj with
    | 0, _ => simpa using c0
    | 1, _ => simpa using c1
    | 2, _ => simpa using c2
    | (j + 3), h => exact absurd h (by simp only [List.length_cons, List.length_nil]; omega)
  · intro j hj
    match j, hj with
    | 0, _ => simpa using f0
    | 1, _ => simpa using f1
    | 2, _ => simpa using f2
    | (j + 3), h => exact absurd h (by simp only [List.length_cons, List.length_nil]; omega)
  · intro v hv
    simp at hv
    first | (subst hv; rfl) | (rcases hv with rfl | rfl <;> rfl) | (rcases hv with rfl | rfl | rfl <;> rfl) | (rcases hv with rfl | rfl | rfl | rfl <;> rfl)
theorem cpy4 (W : World) (g b off cap : Nat) (v0 v1 v2 v3 : Int) (h0 : W.cell? ⟨b, off, none⟩ = some (.int .u64 v0)) (h1 : W.cell? ⟨b, off + 1, none⟩ = some (.int .u64 v1)) (h2 : W.cell? ⟨b, off + 2, none⟩ = some (.int .u64 v2)) (h3 : W.cell? ⟨b, off + 3, none⟩ = some (.int .u64 v3)) (c0 : (W.cell? ⟨g, 0, none⟩).isSome = true) (f0 : W.frozen? ⟨g, 0, none⟩ = false) (c1 : (W.cell? ⟨g, 1, none⟩).isSome = true) (f1 : W.frozen? ⟨g, 1, none⟩ = false) (c2 : (W.cell? ⟨g, 2, none⟩).isSome = true) (f2 : W.frozen? ⟨g, 2, none⟩ = false) (c3 : (W.cell? ⟨g, 3, none⟩).isSome = true) (f3 : W.frozen? ⟨g, 3, none⟩ = false) :
    Sem.run Tryz.prog (Builtin.copy_ #[49, 49] 3 #[.slice (some ⟨g, 0, none⟩) 4 4, .slice (some ⟨b, off, none⟩) 4 cap]) W = .ok (.int .i64 4) ((((W.setCell ⟨g, 0, none⟩ (.int .u64 v0)).setCell ⟨g, 1, none⟩ (.int .u64 v1)).setCell ⟨g, 2, none⟩ (.int .u64 v2)).setCell ⟨g, 3, none⟩ (.int .u64 v3)) := by
  have := run_copy_cells (P := Tryz.prog) W 49 49 3 22 g 0 4 4 ⟨b, off, none⟩ 4 cap [.int .u64 v0, .int .u64 v1, .int .u64 v2, .int .u64 v3] Tryz.underlying49 (by kernel_rfl) rfl ?_ ?_ ?_ ?_
  · exact this
  · intro j v
    match j, v with
    | 0, _ => intro h; cases h; simpa [Addr.add] using h0
    | 1, _ => intro h; cases h; simpa [Addr.add] using h1
    | 2, _ => intro h; cases h; simpa [Addr.add] using h2
    | 3, _ => intro h; cases h; simpa [Addr.add] using h3
    | (j + 4), _ => intro h; simp at h
  · intro j hj
    match j, hj with
    | 0, _ => simpa using c0
    | 1, _ => simpa using c1
    | 2, _ => simpa using c2
    | 3, _ => simpa using c3
    | (j + 4), h => exact absurd h (by simp only [List.length_cons, List.length_nil]; omega)
  · intro j hj
    match j, hj with
    | 0, _ => simpa using f0
    | 1, _ => simpa using f1
    | 2, _ => simpa using f2
    | 3, _ => simpa using f3
    | (j + 4), h => exact absurd h (by simp only [List.length_cons, List.length_nil]; omega)
  · intro v hv
    simp at hv
    first | (subst hv; rfl) | (rcases hv with rfl | rfl <;> rfl) | (rcases hv with rfl | rfl | rfl <;> rfl) | (rcases hv with rfl | rfl | rfl | rfl <;> rfl)
attribute [local irreducible] W4 Nz Nt
section
variable (n d : Int) (nm : ByteArray) (wd : Int) (f e : Nat) (l m : Int) (w : World) (hT : Tab w)
include hT
variable (c54 : ∀ W, Tab W → Calls Tryz.prog 32 #[.int .i64 n] W fun r w' => r = .returned (.tuple #[DI n nm wd f e l m, .int .i64 0]) ∧ Below W.heap.size W w')
include c54
set_option maxHeartbeats 1000000 in
theorem rck_k (hd : decide (knB d) = true) : Calls Tryz.prog 47 #[.int .i64 n, .int .i64 d] w fun r w' => r = .returned (.tuple #[DI n nm wd f e l m, .int .i64 0]) ∧ Below w.heap.size w w' := by
  have hsm := cell_set_map
  have c55 := known_any d
  rw [hd] at c55
  go_enter Tryz.func47, Tryz.ntmps47
  go_wp2_with (first
    | (go_at_call 32; refine (c54 _ (hT.go bgo)).mono ?_; rintro r w1 ⟨rfl, hb1⟩; obtain ⟨hc1, hf1⟩ := bcell hb1; have hz1_0 : w.heap.size < w1.heap.size := lt_below hb1 ltg; have hl1_0 := Nat.le_of_lt hz1_0; have hA1 := bnext (w0 := w) bgo hb1; have hs1 := hA1.size; clear hb1)
    | (go_at_call 33; refine (c55 _).mono ?_; rintro r w2 ⟨rfl, rfl⟩))
  exact bodyPost_ret (v := .tuple #[DI n nm wd f e l m, .int .i64 0]) (by simp only [results, Tryz.results47]; go_simp) rfl ⟨rfl, bgo⟩
end
theorem rck_good (n d : Int) (w : World) (hT : Tab w) (h : binN n ∧ knB d) : Calls Tryz.prog 47 #[.int .i64 n, .int .i64 d] w fun r w' => r = .returned (.tuple #[DI n (nameN n) (widthN n) (fN n) (eN n) (leastN n) (mostN n), .int .i64 0]) ∧ Below w.heap.size w w' :=
  rck_k n d _ _ _ _ _ _ w hT (fun W hT' => dof_bin h.1 W hT') (decide_eq_true h.2)
set_option maxHeartbeats 1000000 in
theorem within8 (c : Int) (s g : Bool) (d : List UInt8) (e : Int) (w : World) (hd : d.length ≤ 4000) : Calls Tryz.prog 145 #[PV c s g d e] w fun r w' => r = .returned (.int .i64 (pwE d.length e)) ∧ Below w.heap.size w w' := by
  have hsl : ((B d).size : Int) ≤ 4000 := by rw [B_size]; omega
  have HE : Hid (pwE d.length e = min (max e (-6000 - ((B d).size : Int))) (6000 - ((B d).size : Int))) := rfl
  have hsm := cell_set_map
  unfold PV
  go_enter Tryz.func145, Tryz.ntmps145
  go_wp2
  go_ret
  exact ⟨by rw [HE.out]; rfl, bgo⟩
/-- the number of digits -/
def dV (l : List UInt8) : Nat := (numV (B l) (B l).size).toNat
theorem sb_by (l : List UInt8) (i : Nat) : sb (B l) i = by_ l i := by
  unfold sb by_
  by_cases h : i < l.length
  · rw [dif_pos (show i < (B l).size from h), dif_pos h, B_get]
  · rw [dif_neg (show ¬ i < (B l).size from h), dif_neg h]
theorem dig_B {l : List UInt8} (h : l.all dg = true) : digB (B l) (B l).size = true := by
  refine digB_of _ fun k hk => ?_
  rw [sb_by]
  have hk' : k < l.length := hk
  have h1 := List.all_eq_true.1 h (l[k]'hk') (List.getElem_mem hk')
  unfold dg at h1
  unfold by_
  rw [dif_pos hk']
  have := of_decide_eq_true h1
  omega
theorem dV_lt {l : List UInt8} (h : l.all dg = true) : dV l < 10 ^ l.length ∧ (dV l : Int) = numV (B l) (B l).size := by
  obtain ⟨a, b⟩ := numV_bd _ (dig_B h)
  unfold dV
  generalize numV (B l) (B l).size = V at *
  rw [B_size] at b
  have : ((10 : Int) ^ l.length) = ((10 ^ l.length : Nat) : Int) := by simp
  rw [this] at b
  exact ⟨by omega, by omega⟩
theorem num_zero (l : List UInt8) : numV (B (48 :: l)) (B (48 :: l)).size = numV (B l) (B l).size := by
  have h := numV_app (s := B (48 :: l)) (u := B l) 1 (B l).size (fun i hi => by rw [sb_by, sb_by, Nat.add_comm, by_succ])
  have hs : (B (48 :: l)).size = 1 + (B l).size := by rw [B_size, B_size, List.length_cons]; omega
  rw [hs, h]
  have h1 : numV (B (48 :: l)) 1 = 0 := by
    have : numV (B (48 :: l)) 1 = numV (B (48 :: l)) 0 * 10 + (sb (B (48 :: l)) 0 - 48) := rfl
    rw [this, sb_by, by_zero]; rfl
  rw [h1]; omega
theorem bl_10 {A L k : Nat} (h : A < 10 ^ L) (hk : 4 * L ≤ k) : bl A ≤ k := by
  refine bl_le.2 (Nat.lt_of_lt_of_le h ?_)
  have h1 : 10 ^ L ≤ 16 ^ L := Nat.pow_le_pow_left (by decide) L
  have h2 : (16 : Nat) ^ L = 2 ^ (4 * L) := by rw [Nat.pow_mul]
  exact Nat.le_trans h1 (h2 ▸ Nat.pow_le_pow_right (by decide) hk)
theorem nz_of {a : Option Addr} {k cap K V : Nat} {z : Nat → Int} {w : World} (h : Num w a k cap z) (hv : val z k = (V : Int)) (hs : sizeL z k = k) (hb : bl V ≤ 64 * K) : Nz K V (.slice a k cap) w := by
  unfold Nz
  exact ⟨a, k, cap, z, rfl, by have := (size_bl (m := K) h.2.2.1 hv).2 hb; omega, h, hv, hs⟩
set_option maxHeartbeats 1000000 in
theorem natural8 (l : List UInt8) (w : World) (hd : l.all dg = true) (hl : l.length ≤ 4000) : Calls Tryz.prog 146 #[.string (B l)] w fun r w' => ∃ v, r = .returned v ∧ Nz 251 (dV l) v w' ∧ Below w.heap.size w w' := by
  have h48 : (48 :: l).all dg = true := by rw [List.all_cons, hd]; rfl
  have c100 := nread_ok (B (48 :: l)) w (by unfold isDigB; rw [dig_B h48]; simp [B_size]) (by rw [B_size, List.length_cons]; omega)
  rw [num_zero] at c100
  obtain ⟨hlt, he⟩ := dV_lt hd
  rw [← he] at c100
  have hbl : bl (dV l) ≤ 64 * 251 := bl_10 hlt (by omega)
  have eB : (⟨#[48]⟩ : ByteArray) ++ B l = B (48 :: l) := B_app [48] l
  have hsz : (B l).size ≤ 4000 := by rw [B_size]; exact hl
  have hs2 : ((B (48 :: l)).size : Int) ≤ 9223372036854775807 := by rw [B_size, List.length_cons]; omega
  generalize dV l = A at *
  rw [← eB] at c100 hs2
  clear hd h48 hlt he eB
  go_enter Tryz.func146, Tryz.ntmps146
  go_wp2_with (go_at_call 191; refine c100.mono ?_; rintro e w1 ⟨o, k, cap, z, rfl, hk, hN, hv, hs, hB⟩)
  go_ret
  exact ⟨_, rfl, nz_of hN hv hs hbl, hB⟩
end Go.Proofs.YtplocajjfoiklaaGreatDoor
