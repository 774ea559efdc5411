/-
  Texts that the proof leans on, joined: Gu, Gv, Ha, Hb, Xa, Xc, Sc.
-/
import Derived.Test.YtoobncgmcnmgjaaGreatDoorJ24
import Derived.Lib.ItoaLen
import Derived.Test.YtoobncgmcnmgjaaGreatDoorJ1
import Derived.Test.YtoobncgmcnmgjaaGreatDoorJ20
import Derived.Test.YtoobncgmcnmgjaaGreatDoorJ16
import Derived.Test.YtoobncgmcnmgjaaGreatDoorJ22
import Derived.Deep.Cut
import Derived.Deep.CutRange
import Derived.Deep.RegionWith
import Derived.Test.YtoobncgmcnmgjaaGreatDoorJ6
set_option linter.unusedVariables false
set_option linter.unusedSimpArgs false
set_option maxRecDepth 20000
set_option linter.unusedSectionVars false
namespace Go.Proofs.YtoobncgmcnmgjaaGreatDoor
open Go.RowKit

def nanT (g : Bool) (d : List UInt8) : List UInt8 := (if g then [115] else []) ++ ([110, 97, 110] ++ (if d = [] then [] else 40 :: (d ++ [41])))
def finT (d : List UInt8) (e : Int) : List UInt8 := dgT d ++ exT e
def bodT (c : Int) (g : Bool) (d : List UInt8) (e : Int) : List UInt8 := if c = 2 then [105, 110, 102] else if c = 3 then nanT g d else finT d e
def texT (c : Int) (s g : Bool) (d : List UInt8) (e : Int) : List UInt8 := (if s then [45] else []) ++ bodT c g d e
theorem own_str {Bs : Nat} {v : Value} {l : List UInt8} {W : World} (h : W.ownsRow Bs 5 1 v l.length (Lib.byteCells l)) (hp : 0 < l.length) : (convert 80 9 v).run Tryz.prog W = .ok (.string (B l)) W := by
  obtain ⟨g, cap, rfl, _, _⟩ := h.form hp
  refine run_convert_bytes_back W 80 9 5 ⟨g, 0, none⟩ cap l Tryz.underlying80 Tryz.underlying5 Tryz.underlying9 fun j hj => ?_
  rw [show (⟨g, 0, none⟩ : Addr).add j = ⟨g, j, none⟩ by unfold Addr.add; split <;> simp_all]
  rw [h.cellAt j (by omega)]
  simp [Lib.byteCells, hj]
end Go.Proofs.YtoobncgmcnmgjaaGreatDoor

namespace Go.Proofs.YtoobncgmcnmgjaaGreatDoor
open Go.RowKit

def Tb10 (w : World) : Prop := Lib.TabIs Tryz.prog w "internal/strconv.uint64pow10" .u64 Lib.pow10Tab
theorem Tb10.next {w w' : World} (h : Tb10 w) (hb : Below w.heap.size w w') : Tb10 w' := Lib.tabBelow_of_tabIs h w' hb
end Go.Proofs.YtoobncgmcnmgjaaGreatDoor

namespace Go.Proofs.YtoobncgmcnmgjaaGreatDoor
open Go.RowKit

/-- good digits: none, or digits with no nought ahead -/
def gdD (d : List UInt8) : Prop := d = [] ∨ (isd d = true ∧ by_ d 0 ≠ 48)
end Go.Proofs.YtoobncgmcnmgjaaGreatDoor

namespace Go.Proofs.YtoobncgmcnmgjaaGreatDoor
open Go.RowKit

theorem itoa_any (e : Int) (w : World) (he : -9223372036854775808 ≤ e ∧ e ≤ 9223372036854775807) (hT : Tb10 w) :
    Calls Tryz.prog 53 #[.int .i64 e] w fun x w' => x = .returned (.string (B (Lib.itoa e))) ∧ Below w.heap.size w w' := by
  refine (Tryz.strconv_Itoa e he.1 he.2 w hT).mono ?_
  rintro x w' ⟨rfl, k, os, rfl⟩
  exact ⟨rfl, ⟨rfl, rfl, rfl, by show w.heap.size ≤ (w.heap ++ os).size; simp, fun b hb => by show (w.heap ++ os)[b]? = w.heap[b]?; rw [Array.getElem?_append_left hb]⟩⟩
set_option maxHeartbeats 2000000 in
theorem rx2_f (g : Bool) (d : List UInt8) (e : Int) (w : World) :
    Calls Tryz.prog 73 #[PV 2 false g d e] w fun x w' => x = .returned (.string (B ([] ++ [105, 110, 102]))) ∧ Below w.heap.size w w' := by
  have htl := B_toList
  have hsm := gcell_set_map
  have hn0 : B [] = ⟨#[]⟩ := rfl
  have p0 : (⟨#[]⟩ : ByteArray) ++ (⟨#[105, 110, 102]⟩ : ByteArray) = B ([] ++ [105, 110, 102]) := B_app ([]) ([105, 110, 102])
  have z0 : (B ([] ++ [105, 110, 102])).size = 3 := by rw [B_size]; simp only [List.length_append, List.length_cons, List.length_nil]; try omega
  generalize ([] ++ [105, 110, 102] : List UInt8) = L0 at *
  unfold PV
  go_enter Tryz.func73, Tryz.ntmps73
  go_wp2
  go_ret
  exact ⟨rfl, bgo⟩
set_option maxHeartbeats 2000000 in
theorem rx3_ff0 (e : Int) (w : World) :
    Calls Tryz.prog 73 #[PV 3 false false [] e] w fun x w' => x = .returned (.string (B ([] ++ [110, 97, 110]))) ∧ Below w.heap.size w w' := by
  have htl := B_toList
  have hsm := gcell_set_map
  have hn0 : B [] = ⟨#[]⟩ := rfl
  have p0 : (⟨#[]⟩ : ByteArray) ++ (⟨#[110, 97, 110]⟩ : ByteArray) = B ([] ++ [110, 97, 110]) := B_app ([]) ([110, 97, 110])
  have z0 : (B ([] ++ [110, 97, 110])).size = 3 := by rw [B_size]; simp only [List.length_append, List.length_cons, List.length_nil]; try omega
  generalize ([] ++ [110, 97, 110] : List UInt8) = L0 at *
  unfold PV
  go_enter Tryz.func73, Tryz.ntmps73
  go_wp2
  go_ret
  exact ⟨rfl, bgo⟩
set_option maxHeartbeats 2000000 in
theorem rx3_ff1 (y : UInt8) (ys : List UInt8) (hd : ys.length < 100000) (e : Int) (w : World) :
    Calls Tryz.prog 73 #[PV 3 false false (y :: ys) e] w fun x w' => x = .returned (.string (B (((([] ++ [110, 97, 110]) ++ [40]) ++ (y :: ys)) ++ [41]))) ∧ Below w.heap.size w w' := by
  have htl := B_toList
  have hsm := gcell_set_map
  have hsz : (B (y :: ys)).size = ys.length + 1 := B_size (y :: ys)
  have p0 : (⟨#[]⟩ : ByteArray) ++ (⟨#[110, 97, 110]⟩ : ByteArray) = B ([] ++ [110, 97, 110]) := B_app ([]) ([110, 97, 110])
  have z0 : (B ([] ++ [110, 97, 110])).size = 3 := by rw [B_size]; simp only [List.length_append, List.length_cons, List.length_nil]; try omega
  generalize ([] ++ [110, 97, 110] : List UInt8) = L0 at *
  have p1 : B L0 ++ (⟨#[40]⟩ : ByteArray) = B (L0 ++ [40]) := B_app (L0) ([40])
  have z1 : (B (L0 ++ [40])).size = 4 := by have h := z0; rw [B_size] at h ⊢; simp only [List.length_append, List.length_cons, List.length_nil]; omega
  generalize (L0 ++ [40] : List UInt8) = L1 at *
  have p2 : B L1 ++ B (y :: ys) = B (L1 ++ (y :: ys)) := B_app (L1) ((y :: ys))
  have z2 : (B (L1 ++ (y :: ys))).size = ys.length + 1 + 4 := by have h := z1; rw [B_size] at h ⊢; simp only [List.length_append, List.length_cons, List.length_nil]; omega
  generalize (L1 ++ (y :: ys) : List UInt8) = L2 at *
  have p3 : B L2 ++ (⟨#[41]⟩ : ByteArray) = B (L2 ++ [41]) := B_app (L2) ([41])
  have z3 : (B (L2 ++ [41])).size = ys.length + 1 + 5 := by have h := z2; rw [B_size] at h ⊢; simp only [List.length_append, List.length_cons, List.length_nil]; omega
  generalize (L2 ++ [41] : List UInt8) = L3 at *
  unfold PV
  go_enter Tryz.func73, Tryz.ntmps73
  go_wp2
  go_ret
  exact ⟨rfl, bgo⟩
set_option maxHeartbeats 2000000 in
theorem rx3_ft0 (e : Int) (w : World) :
    Calls Tryz.prog 73 #[PV 3 false true [] e] w fun x w' => x = .returned (.string (B (([] ++ [115]) ++ [110, 97, 110]))) ∧ Below w.heap.size w w' := by
  have htl := B_toList
  have hsm := gcell_set_map
  have hn0 : B [] = ⟨#[]⟩ := rfl
  have p0 : (⟨#[]⟩ : ByteArray) ++ (⟨#[115]⟩ : ByteArray) = B ([] ++ [115]) := B_app ([]) ([115])
  have z0 : (B ([] ++ [115])).size = 1 := by rw [B_size]; simp only [List.length_append, List.length_cons, List.length_nil]; try omega
  generalize ([] ++ [115] : List UInt8) = L0 at *
  have p1 : B L0 ++ (⟨#[110, 97, 110]⟩ : ByteArray) = B (L0 ++ [110, 97, 110]) := B_app (L0) ([110, 97, 110])
  have z1 : (B (L0 ++ [110, 97, 110])).size = 4 := by have h := z0; rw [B_size] at h ⊢; simp only [List.length_append, List.length_cons, List.length_nil]; omega
  generalize (L0 ++ [110, 97, 110] : List UInt8) = L1 at *
  unfold PV
  go_enter Tryz.func73, Tryz.ntmps73
  go_wp2
  go_ret
  exact ⟨rfl, bgo⟩
set_option maxHeartbeats 2000000 in
theorem rx3_ft1 (y : UInt8) (ys : List UInt8) (hd : ys.length < 100000) (e : Int) (w : World) :
    Calls Tryz.prog 73 #[PV 3 false true (y :: ys) e] w fun x w' => x = .returned (.string (B ((((([] ++ [115]) ++ [110, 97, 110]) ++ [40]) ++ (y :: ys)) ++ [41]))) ∧ Below w.heap.size w w' := by
  have htl := B_toList
  have hsm := gcell_set_map
  have hsz : (B (y :: ys)).size = ys.length + 1 := B_size (y :: ys)
  have p0 : (⟨#[]⟩ : ByteArray) ++ (⟨#[115]⟩ : ByteArray) = B ([] ++ [115]) := B_app ([]) ([115])
  have z0 : (B ([] ++ [115])).size = 1 := by rw [B_size]; simp only [List.length_append, List.length_cons, List.length_nil]; try omega
  generalize ([] ++ [115] : List UInt8) = L0 at *
  have p1 : B L0 ++ (⟨#[110, 97, 110]⟩ : ByteArray) = B (L0 ++ [110, 97, 110]) := B_app (L0) ([110, 97, 110])
  have z1 : (B (L0 ++ [110, 97, 110])).size = 4 := by have h := z0; rw [B_size] at h ⊢; simp only [List.length_append, List.length_cons, List.length_nil]; omega
  generalize (L0 ++ [110, 97, 110] : List UInt8) = L1 at *
  have p2 : B L1 ++ (⟨#[40]⟩ : ByteArray) = B (L1 ++ [40]) := B_app (L1) ([40])
  have z2 : (B (L1 ++ [40])).size = 5 := by have h := z1; rw [B_size] at h ⊢; simp only [List.length_append, List.length_cons, List.length_nil]; omega
  generalize (L1 ++ [40] : List UInt8) = L2 at *
  have p3 : B L2 ++ B (y :: ys) = B (L2 ++ (y :: ys)) := B_app (L2) ((y :: ys))
  have z3 : (B (L2 ++ (y :: ys))).size = ys.length + 1 + 5 := by have h := z2; rw [B_size] at h ⊢; simp only [List.length_append, List.length_cons, List.length_nil]; omega
  generalize (L2 ++ (y :: ys) : List UInt8) = L3 at *
  have p4 : B L3 ++ (⟨#[41]⟩ : ByteArray) = B (L3 ++ [41]) := B_app (L3) ([41])
  have z4 : (B (L3 ++ [41])).size = ys.length + 1 + 6 := by have h := z3; rw [B_size] at h ⊢; simp only [List.length_append, List.length_cons, List.length_nil]; omega
  generalize (L3 ++ [41] : List UInt8) = L4 at *
  unfold PV
  go_enter Tryz.func73, Tryz.ntmps73
  go_wp2
  go_ret
  exact ⟨rfl, bgo⟩
set_option maxHeartbeats 2000000 in
theorem rxo_f00 (g : Bool) (c : Int) (h2 : (c == 2) = false) (h3 : (c == 3) = false) (e : Int) (he0 : (e != 0) = true) (he : -9223372036854775808 ≤ e ∧ e ≤ 9223372036854775807) (w : World) (hT : Tb10 w) :
    Calls Tryz.prog 73 #[PV c false g [] e] w fun x w' => x = .returned (.string (B (((([] ++ [48]) ++ []) ++ [101]) ++ Lib.itoa e))) ∧ Below w.heap.size w w' := by
  have htl := B_toList
  have hsm := gcell_set_map
  have hn0 : B [] = ⟨#[]⟩ := rfl
  have hil := Lib.itoa_length_le e he.1 he.2
  have hisz := B_size (Lib.itoa e)
  have c38 := fun W (hb : Below w.heap.size w W) => itoa_any e W he (hT.next hb)
  have p0 : (⟨#[]⟩ : ByteArray) ++ (⟨#[48]⟩ : ByteArray) = B ([] ++ [48]) := B_app ([]) ([48])
  have z0 : (B ([] ++ [48])).size = 1 := by rw [B_size]; simp only [List.length_append, List.length_cons, List.length_nil]; try omega
  generalize ([] ++ [48] : List UInt8) = L0 at *
  have p1 : B L0 ++ (⟨#[]⟩ : ByteArray) = B (L0 ++ []) := B_app (L0) ([])
  have z1 : (B (L0 ++ [])).size = 1 := by have h := z0; rw [B_size] at h ⊢; simp only [List.length_append, List.length_cons, List.length_nil]; omega
  generalize (L0 ++ [] : List UInt8) = L1 at *
  have p2 : B L1 ++ (⟨#[101]⟩ : ByteArray) = B (L1 ++ [101]) := B_app (L1) ([101])
  have z2 : (B (L1 ++ [101])).size = 2 := by have h := z1; rw [B_size] at h ⊢; simp only [List.length_append, List.length_cons, List.length_nil]; omega
  generalize (L1 ++ [101] : List UInt8) = L2 at *
  have p3 : B L2 ++ B (Lib.itoa e) = B (L2 ++ Lib.itoa e) := B_app (L2) (Lib.itoa e)
  have z3 : (B (L2 ++ Lib.itoa e)).size = (Lib.itoa e).length + 2 := by have h := z2; rw [B_size] at h ⊢; simp only [List.length_append, List.length_cons, List.length_nil]; omega
  generalize (L2 ++ Lib.itoa e : List UInt8) = L3 at *
  unfold PV
  go_enter Tryz.func73, Tryz.ntmps73
  go_wp2_with (first | (go_at_call 53; refine (c38 _ bgo).mono ?_; rintro x w1 ⟨rfl, hb1⟩; obtain ⟨hc1, hf1⟩ := gbcell hb1; have hz1_0 : w.heap.size < w1.heap.size := glt_below hb1 ltg; have hl1_0 := Nat.le_of_lt hz1_0; have hA1 := gbnext (w0 := w) bgo hb1; have hs1 := hA1.size; clear hb1))
  go_ret
  exact ⟨rfl, bgo⟩
set_option maxHeartbeats 2000000 in
theorem rxo_f01 (g : Bool) (c : Int) (h2 : (c == 2) = false) (h3 : (c == 3) = false) (w : World) :
    Calls Tryz.prog 73 #[PV c false g [] 0] w fun x w' => x = .returned (.string (B (([] ++ [48]) ++ []))) ∧ Below w.heap.size w w' := by
  have htl := B_toList
  have hsm := gcell_set_map
  have hn0 : B [] = ⟨#[]⟩ := rfl
  have p0 : (⟨#[]⟩ : ByteArray) ++ (⟨#[48]⟩ : ByteArray) = B ([] ++ [48]) := B_app ([]) ([48])
  have z0 : (B ([] ++ [48])).size = 1 := by rw [B_size]; simp only [List.length_append, List.length_cons, List.length_nil]; try omega
  generalize ([] ++ [48] : List UInt8) = L0 at *
  have p1 : B L0 ++ (⟨#[]⟩ : ByteArray) = B (L0 ++ []) := B_app (L0) ([])
  have z1 : (B (L0 ++ [])).size = 1 := by have h := z0; rw [B_size] at h ⊢; simp only [List.length_append, List.length_cons, List.length_nil]; omega
  generalize (L0 ++ [] : List UInt8) = L1 at *
  unfold PV
  go_enter Tryz.func73, Tryz.ntmps73
  go_wp2
  go_ret
  exact ⟨rfl, bgo⟩
set_option maxHeartbeats 2000000 in
theorem rxo_f10 (g : Bool) (c : Int) (h2 : (c == 2) = false) (h3 : (c == 3) = false) (y : UInt8) (ys : List UInt8) (hd : ys.length < 100000) (e : Int) (he0 : (e != 0) = true) (he : -9223372036854775808 ≤ e ∧ e ≤ 9223372036854775807) (w : World) (hT : Tb10 w) :
    Calls Tryz.prog 73 #[PV c false g (y :: ys) e] w fun x w' => x = .returned (.string (B ((([] ++ (y :: ys)) ++ [101]) ++ Lib.itoa e))) ∧ Below w.heap.size w w' := by
  have htl := B_toList
  have hsm := gcell_set_map
  have hsz : (B (y :: ys)).size = ys.length + 1 := B_size (y :: ys)
  have hil := Lib.itoa_length_le e he.1 he.2
  have hisz := B_size (Lib.itoa e)
  have c38 := fun W (hb : Below w.heap.size w W) => itoa_any e W he (hT.next hb)
  have p0 : (⟨#[]⟩ : ByteArray) ++ B (y :: ys) = B ([] ++ (y :: ys)) := B_app ([]) ((y :: ys))
  have z0 : (B ([] ++ (y :: ys))).size = ys.length + 1 + 0 := by rw [B_size]; simp only [List.length_append, List.length_cons, List.length_nil]; try omega
  generalize ([] ++ (y :: ys) : List UInt8) = L0 at *
  have p1 : B L0 ++ (⟨#[101]⟩ : ByteArray) = B (L0 ++ [101]) := B_app (L0) ([101])
  have z1 : (B (L0 ++ [101])).size = ys.length + 1 + 1 := by have h := z0; rw [B_size] at h ⊢; simp only [List.length_append, List.length_cons, List.length_nil]; omega
  generalize (L0 ++ [101] : List UInt8) = L1 at *
  have p2 : B L1 ++ B (Lib.itoa e) = B (L1 ++ Lib.itoa e) := B_app (L1) (Lib.itoa e)
  have z2 : (B (L1 ++ Lib.itoa e)).size = ys.length + 1 + (Lib.itoa e).length + 1 := by have h := z1; rw [B_size] at h ⊢; simp only [List.length_append, List.length_cons, List.length_nil]; omega
  generalize (L1 ++ Lib.itoa e : List UInt8) = L2 at *
  unfold PV
  go_enter Tryz.func73, Tryz.ntmps73
  go_wp2_with (first | (go_at_call 53; refine (c38 _ bgo).mono ?_; rintro x w1 ⟨rfl, hb1⟩; obtain ⟨hc1, hf1⟩ := gbcell hb1; have hz1_0 : w.heap.size < w1.heap.size := glt_below hb1 ltg; have hl1_0 := Nat.le_of_lt hz1_0; have hA1 := gbnext (w0 := w) bgo hb1; have hs1 := hA1.size; clear hb1))
  go_ret
  exact ⟨rfl, bgo⟩
set_option maxHeartbeats 2000000 in
theorem rxo_f11 (g : Bool) (c : Int) (h2 : (c == 2) = false) (h3 : (c == 3) = false) (y : UInt8) (ys : List UInt8) (hd : ys.length < 100000) (w : World) :
    Calls Tryz.prog 73 #[PV c false g (y :: ys) 0] w fun x w' => x = .returned (.string (B ([] ++ (y :: ys)))) ∧ Below w.heap.size w w' := by
  have htl := B_toList
  have hsm := gcell_set_map
  have hsz : (B (y :: ys)).size = ys.length + 1 := B_size (y :: ys)
  have p0 : (⟨#[]⟩ : ByteArray) ++ B (y :: ys) = B ([] ++ (y :: ys)) := B_app ([]) ((y :: ys))
  have z0 : (B ([] ++ (y :: ys))).size = ys.length + 1 + 0 := by rw [B_size]; simp only [List.length_append, List.length_cons, List.length_nil]; try omega
  generalize ([] ++ (y :: ys) : List UInt8) = L0 at *
  unfold PV
  go_enter Tryz.func73, Tryz.ntmps73
  go_wp2
  go_ret
  exact ⟨rfl, bgo⟩
set_option maxHeartbeats 2000000 in
theorem rx2_t (g : Bool) (d : List UInt8) (e : Int) (w : World) :
    Calls Tryz.prog 73 #[PV 2 true g d e] w fun x w' => x = .returned (.string (B ([45] ++ [105, 110, 102]))) ∧ Below w.heap.size w w' := by
  have htl := B_toList
  have hsm := gcell_set_map
  have hn0 : B [] = ⟨#[]⟩ := rfl
  have p0 : (⟨#[45]⟩ : ByteArray) ++ (⟨#[105, 110, 102]⟩ : ByteArray) = B ([45] ++ [105, 110, 102]) := B_app ([45]) ([105, 110, 102])
  have z0 : (B ([45] ++ [105, 110, 102])).size = 4 := by rw [B_size]; simp only [List.length_append, List.length_cons, List.length_nil]; try omega
  generalize ([45] ++ [105, 110, 102] : List UInt8) = L0 at *
  unfold PV
  go_enter Tryz.func73, Tryz.ntmps73
  go_wp2
  go_ret
  exact ⟨rfl, bgo⟩
set_option maxHeartbeats 2000000 in
theorem rx3_tf0 (e : Int) (w : World) :
    Calls Tryz.prog 73 #[PV 3 true false [] e] w fun x w' => x = .returned (.string (B ([45] ++ [110, 97, 110]))) ∧ Below w.heap.size w w' := by
  have htl := B_toList
  have hsm := gcell_set_map
  have hn0 : B [] = ⟨#[]⟩ := rfl
  have p0 : (⟨#[45]⟩ : ByteArray) ++ (⟨#[110, 97, 110]⟩ : ByteArray) = B ([45] ++ [110, 97, 110]) := B_app ([45]) ([110, 97, 110])
  have z0 : (B ([45] ++ [110, 97, 110])).size = 4 := by rw [B_size]; simp only [List.length_append, List.length_cons, List.length_nil]; try omega
  generalize ([45] ++ [110, 97, 110] : List UInt8) = L0 at *
  unfold PV
  go_enter Tryz.func73, Tryz.ntmps73
  go_wp2
  go_ret
  exact ⟨rfl, bgo⟩
set_option maxHeartbeats 2000000 in
theorem rx3_tf1 (y : UInt8) (ys : List UInt8) (hd : ys.length < 100000) (e : Int) (w : World) :
    Calls Tryz.prog 73 #[PV 3 true false (y :: ys) e] w fun x w' => x = .returned (.string (B (((([45] ++ [110, 97, 110]) ++ [40]) ++ (y :: ys)) ++ [41]))) ∧ Below w.heap.size w w' := by
  have htl := B_toList
  have hsm := gcell_set_map
  have hsz : (B (y :: ys)).size = ys.length + 1 := B_size (y :: ys)
  have p0 : (⟨#[45]⟩ : ByteArray) ++ (⟨#[110, 97, 110]⟩ : ByteArray) = B ([45] ++ [110, 97, 110]) := B_app ([45]) ([110, 97, 110])
  have z0 : (B ([45] ++ [110, 97, 110])).size = 4 := by rw [B_size]; simp only [List.length_append, List.length_cons, List.length_nil]; try omega
  generalize ([45] ++ [110, 97, 110] : List UInt8) = L0 at *
  have p1 : B L0 ++ (⟨#[40]⟩ : ByteArray) = B (L0 ++ [40]) := B_app (L0) ([40])
  have z1 : (B (L0 ++ [40])).size = 5 := by have h := z0; rw [B_size] at h ⊢; simp only [List.length_append, List.length_cons, List.length_nil]; omega
  generalize (L0 ++ [40] : List UInt8) = L1 at *
  have p2 : B L1 ++ B (y :: ys) = B (L1 ++ (y :: ys)) := B_app (L1) ((y :: ys))
  have z2 : (B (L1 ++ (y :: ys))).size = ys.length + 1 + 5 := by have h := z1; rw [B_size] at h ⊢; simp only [List.length_append, List.length_cons, List.length_nil]; omega
  generalize (L1 ++ (y :: ys) : List UInt8) = L2 at *
  have p3 : B L2 ++ (⟨#[41]⟩ : ByteArray) = B (L2 ++ [41]) := B_app (L2) ([41])
  have z3 : (B (L2 ++ [41])).size = ys.length + 1 + 6 := by have h := z2; rw [B_size] at h ⊢; simp only [List.length_append, List.length_cons, List.length_nil]; omega
  generalize (L2 ++ [41] : List UInt8) = L3 at *
  unfold PV
  go_enter Tryz.func73, Tryz.ntmps73
  go_wp2
  go_ret
  exact ⟨rfl, bgo⟩
set_option maxHeartbeats 2000000 in
theorem rx3_tt0 (e : Int) (w : World) :
    Calls Tryz.prog 73 #[PV 3 true true [] e] w fun x w' => x = .returned (.string (B (([45] ++ [115]) ++ [110, 97, 110]))) ∧ Below w.heap.size w w' := by
  have htl := B_toList
  have hsm := gcell_set_map
  have hn0 : B [] = ⟨#[]⟩ := rfl
  have p0 : (⟨#[45]⟩ : ByteArray) ++ (⟨#[115]⟩ : ByteArray) = B ([45] ++ [115]) := B_app ([45]) ([115])
  have z0 : (B ([45] ++ [115])).size = 2 := by rw [B_size]; simp only [List.length_append, List.length_cons, List.length_nil]; try omega
  generalize ([45] ++ [115] : List UInt8) = L0 at *
  have p1 : B L0 ++ (⟨#[110, 97, 110]⟩ : ByteArray) = B (L0 ++ [110, 97, 110]) := B_app (L0) ([110, 97, 110])
  have z1 : (B (L0 ++ [110, 97, 110])).size = 5 := by have h := z0; rw [B_size] at h ⊢; simp only [List.length_append, List.length_cons, List.length_nil]; omega
  generalize (L0 ++ [110, 97, 110] : List UInt8) = L1 at *
  unfold PV
  go_enter Tryz.func73, Tryz.ntmps73
  go_wp2
  go_ret
  exact ⟨rfl, bgo⟩
set_option maxHeartbeats 2000000 in
theorem rx3_tt1 (y : UInt8) (ys : List UInt8) (hd : ys.length < 100000) (e : Int) (w : World) :
    Calls Tryz.prog 73 #[PV 3 true true (y :: ys) e] w fun x w' => x = .returned (.string (B ((((([45] ++ [115]) ++ [110, 97, 110]) ++ [40]) ++ (y :: ys)) ++ [41]))) ∧ Below w.heap.size w w' := by
  have htl := B_toList
  have hsm := gcell_set_map
  have hsz : (B (y :: ys)).size = ys.length + 1 := B_size (y :: ys)
  have p0 : (⟨#[45]⟩ : ByteArray) ++ (⟨#[115]⟩ : ByteArray) = B ([45] ++ [115]) := B_app ([45]) ([115])
  have z0 : (B ([45] ++ [115])).size = 2 := by rw [B_size]; simp only [List.length_append, List.length_cons, List.length_nil]; try omega
  generalize ([45] ++ [115] : List UInt8) = L0 at *
  have p1 : B L0 ++ (⟨#[110, 97, 110]⟩ : ByteArray) = B (L0 ++ [110, 97, 110]) := B_app (L0) ([110, 97, 110])
  have z1 : (B (L0 ++ [110, 97, 110])).size = 5 := by have h := z0; rw [B_size] at h ⊢; simp only [List.length_append, List.length_cons, List.length_nil]; omega
  generalize (L0 ++ [110, 97, 110] : List UInt8) = L1 at *
  have p2 : B L1 ++ (⟨#[40]⟩ : ByteArray) = B (L1 ++ [40]) := B_app (L1) ([40])
  have z2 : (B (L1 ++ [40])).size = 6 := by have h := z1; rw [B_size] at h ⊢; simp only [List.length_append, List.length_cons, List.length_nil]; omega
  generalize (L1 ++ [40] : List UInt8) = L2 at *
  have p3 : B L2 ++ B (y :: ys) = B (L2 ++ (y :: ys)) := B_app (L2) ((y :: ys))
  have z3 : (B (L2 ++ (y :: ys))).size = ys.length + 1 + 6 := by have h := z2; rw [B_size] at h ⊢; simp only [List.length_append, List.length_cons, List.length_nil]; omega
  generalize (L2 ++ (y :: ys) : List UInt8) = L3 at *
  have p4 : B L3 ++ (⟨#[41]⟩ : ByteArray) = B (L3 ++ [41]) := B_app (L3) ([41])
  have z4 : (B (L3 ++ [41])).size = ys.length + 1 + 7 := by have h := z3; rw [B_size] at h ⊢; simp only [List.length_append, List.length_cons, List.length_nil]; omega
  generalize (L3 ++ [41] : List UInt8) = L4 at *
  unfold PV
  go_enter Tryz.func73, Tryz.ntmps73
  go_wp2
  go_ret
  exact ⟨rfl, bgo⟩
set_option maxHeartbeats 2000000 in
theorem rxo_t00 (g : Bool) (c : Int) (h2 : (c == 2) = false) (h3 : (c == 3) = false) (e : Int) (he0 : (e != 0) = true) (he : -9223372036854775808 ≤ e ∧ e ≤ 9223372036854775807) (w : World) (hT : Tb10 w) :
    Calls Tryz.prog 73 #[PV c true g [] e] w fun x w' => x = .returned (.string (B (((([45] ++ [48]) ++ []) ++ [101]) ++ Lib.itoa e))) ∧ Below w.heap.size w w' := by
  have htl := B_toList
  have hsm := gcell_set_map
  have hn0 : B [] = ⟨#[]⟩ := rfl
  have hil := Lib.itoa_length_le e he.1 he.2
  have hisz := B_size (Lib.itoa e)
  have c38 := fun W (hb : Below w.heap.size w W) => itoa_any e W he (hT.next hb)
  have p0 : (⟨#[45]⟩ : ByteArray) ++ (⟨#[48]⟩ : ByteArray) = B ([45] ++ [48]) := B_app ([45]) ([48])
  have z0 : (B ([45] ++ [48])).size = 2 := by rw [B_size]; simp only [List.length_append, List.length_cons, List.length_nil]; try omega
  generalize ([45] ++ [48] : List UInt8) = L0 at *
  have p1 : B L0 ++ (⟨#[]⟩ : ByteArray) = B (L0 ++ []) := B_app (L0) ([])
  have z1 : (B (L0 ++ [])).size = 2 := by have h := z0; rw [B_size] at h ⊢; simp only [List.length_append, List.length_cons, List.length_nil]; omega
  generalize (L0 ++ [] : List UInt8) = L1 at *
  have p2 : B L1 ++ (⟨#[101]⟩ : ByteArray) = B (L1 ++ [101]) := B_app (L1) ([101])
  have z2 : (B (L1 ++ [101])).size = 3 := by have h := z1; rw [B_size] at h ⊢; simp only [List.length_append, List.length_cons, List.length_nil]; omega
  generalize (L1 ++ [101] : List UInt8) = L2 at *
  have p3 : B L2 ++ B (Lib.itoa e) = B (L2 ++ Lib.itoa e) := B_app (L2) (Lib.itoa e)
  have z3 : (B (L2 ++ Lib.itoa e)).size = (Lib.itoa e).length + 3 := by have h := z2; rw [B_size] at h ⊢; simp only [List.length_append, List.length_cons, List.length_nil]; omega
  generalize (L2 ++ Lib.itoa e : List UInt8) = L3 at *
  unfold PV
  go_enter Tryz.func73, Tryz.ntmps73
  go_wp2_with (first | (go_at_call 53; refine (c38 _ bgo).mono ?_; rintro x w1 ⟨rfl, hb1⟩; obtain ⟨hc1, hf1⟩ := gbcell hb1; have hz1_0 : w.heap.size < w1.heap.size := glt_below hb1 ltg; have hl1_0 := Nat.le_of_lt hz1_0; have hA1 := gbnext (w0 := w) bgo hb1; have hs1 := hA1.size; clear hb1))
  go_ret
  exact ⟨rfl, bgo⟩
set_option maxHeartbeats 2000000 in
theorem rxo_t01 (g : Bool) (c : Int) (h2 : (c == 2) = false) (h3 : (c == 3) = false) (w : World) :
    Calls Tryz.prog 73 #[PV c true g [] 0] w fun x w' => x = .returned (.string (B (([45] ++ [48]) ++ []))) ∧ Below w.heap.size w w' := by
  have htl := B_toList
  have hsm := gcell_set_map
  have hn0 : B [] = ⟨#[]⟩ := rfl
  have p0 : (⟨#[45]⟩ : ByteArray) ++ (⟨#[48]⟩ : ByteArray) = B ([45] ++ [48]) := B_app ([45]) ([48])
  have z0 : (B ([45] ++ [48])).size = 2 := by rw [B_size]; simp only [List.length_append, List.length_cons, List.length_nil]; try omega
  generalize ([45] ++ [48] : List UInt8) = L0 at *
  have p1 : B L0 ++ (⟨#[]⟩ : ByteArray) = B (L0 ++ []) := B_app (L0) ([])
  have z1 : (B (L0 ++ [])).size = 2 := by have h := z0; rw [B_size] at h ⊢; simp only [List.length_append, List.length_cons, List.length_nil]; omega
  generalize (L0 ++ [] : List UInt8) = L1 at *
  unfold PV
  go_enter Tryz.func73, Tryz.ntmps73
  go_wp2
  go_ret
  exact ⟨rfl, bgo⟩
set_option maxHeartbeats 2000000 in
theorem rxo_t10 (g : Bool) (c : Int) (h2 : (c == 2) = false) (h3 : (c == 3) = false) (y : UInt8) (ys : List UInt8) (hd : ys.length < 100000) (e : Int) (he0 : (e != 0) = true) (he : -9223372036854775808 ≤ e ∧ e ≤ 9223372036854775807) (w : World) (hT : Tb10 w) :
    Calls Tryz.prog 73 #[PV c true g (y :: ys) e] w fun x w' => x = .returned (.string (B ((([45] ++ (y :: ys)) ++ [101]) ++ Lib.itoa e))) ∧ Below w.heap.size w w' := by
  have htl := B_toList
  have hsm := gcell_set_map
  have hsz : (B (y :: ys)).size = ys.length + 1 := B_size (y :: ys)
  have hil := Lib.itoa_length_le e he.1 he.2
  have hisz := B_size (Lib.itoa e)
  have c38 := fun W (hb : Below w.heap.size w W) => itoa_any e W he (hT.next hb)
  have p0 : (⟨#[45]⟩ : ByteArray) ++ B (y :: ys) = B ([45] ++ (y :: ys)) := B_app ([45]) ((y :: ys))
  have z0 : (B ([45] ++ (y :: ys))).size = ys.length + 1 + 1 := by rw [B_size]; simp only [List.length_append, List.length_cons, List.length_nil]; try omega
  generalize ([45] ++ (y :: ys) : List UInt8) = L0 at *
  have p1 : B L0 ++ (⟨#[101]⟩ : ByteArray) = B (L0 ++ [101]) := B_app (L0) ([101])
  have z1 : (B (L0 ++ [101])).size = ys.length + 1 + 2 := by have h := z0; rw [B_size] at h ⊢; simp only [List.length_append, List.length_cons, List.length_nil]; omega
  generalize (L0 ++ [101] : List UInt8) = L1 at *
  have p2 : B L1 ++ B (Lib.itoa e) = B (L1 ++ Lib.itoa e) := B_app (L1) (Lib.itoa e)
  have z2 : (B (L1 ++ Lib.itoa e)).size = ys.length + 1 + (Lib.itoa e).length + 2 := by have h := z1; rw [B_size] at h ⊢; simp only [List.length_append, List.length_cons, List.length_nil]; omega
  generalize (L1 ++ Lib.itoa e : List UInt8) = L2 at *
  unfold PV
  go_enter Tryz.func73, Tryz.ntmps73
  go_wp2_with (first | (go_at_call 53; refine (c38 _ bgo).mono ?_; rintro x w1 ⟨rfl, hb1⟩; obtain ⟨hc1, hf1⟩ := gbcell hb1; have hz1_0 : w.heap.size < w1.heap.size := glt_below hb1 ltg; have hl1_0 := Nat.le_of_lt hz1_0; have hA1 := gbnext (w0 := w) bgo hb1; have hs1 := hA1.size; clear hb1))
  go_ret
  exact ⟨rfl, bgo⟩
set_option maxHeartbeats 2000000 in
theorem rxo_t11 (g : Bool) (c : Int) (h2 : (c == 2) = false) (h3 : (c == 3) = false) (y : UInt8) (ys : List UInt8) (hd : ys.length < 100000) (w : World) :
    Calls Tryz.prog 73 #[PV c true g (y :: ys) 0] w fun x w' => x = .returned (.string (B ([45] ++ (y :: ys)))) ∧ Below w.heap.size w w' := by
  have htl := B_toList
  have hsm := gcell_set_map
  have hsz : (B (y :: ys)).size = ys.length + 1 := B_size (y :: ys)
  have p0 : (⟨#[45]⟩ : ByteArray) ++ B (y :: ys) = B ([45] ++ (y :: ys)) := B_app ([45]) ((y :: ys))
  have z0 : (B ([45] ++ (y :: ys))).size = ys.length + 1 + 1 := by rw [B_size]; simp only [List.length_append, List.length_cons, List.length_nil]; try omega
  generalize ([45] ++ (y :: ys) : List UInt8) = L0 at *
  unfold PV
  go_enter Tryz.func73, Tryz.ntmps73
  go_wp2
  go_ret
  exact ⟨rfl, bgo⟩
theorem rtext_any (c : Int) (s g : Bool) (d : List UInt8) (e : Int) (w : World) (hd : d.length < 100000) (he : -9223372036854775808 ≤ e ∧ e ≤ 9223372036854775807) (hT : Tb10 w) :
    Calls Tryz.prog 73 #[PV c s g d e] w fun x w' => x = .returned (.string (B (texT c s g d e))) ∧ Below w.heap.size w w' := by
  by_cases h2 : c = 2
  · subst h2
    cases s
    · exact rx2_f g d e w
    · exact rx2_t g d e w
  · by_cases h3 : c = 3
    · subst h3
      by_cases h0 : d = []
      · subst h0
        cases s <;> cases g
        · exact rx3_ff0 e w
        · exact rx3_ft0 e w
        · exact rx3_tf0 e w
        · exact rx3_tt0 e w
      · obtain ⟨y, ys, rfl⟩ : ∃ y ys, d = y :: ys := by cases d with | nil => exact absurd rfl h0 | cons y ys => exact ⟨y, ys, rfl⟩
        have hx : ys.length < 100000 := by rw [List.length_cons] at hd; omega
        have q : ∀ s g, texT 3 s g (y :: ys) e = (if s then [45] else []) ++ ((if g then [115] else []) ++ ([110, 97, 110] ++ (40 :: ((y :: ys) ++ [41])))) := fun s g => by
          show _ ++ nanT g (y :: ys) = _
          unfold nanT; rw [if_neg h0]
        rw [q]
        cases s <;> cases g
        · have := rx3_ff1 y ys hx e w; simpa using this
        · have := rx3_ft1 y ys hx e w; simpa using this
        · have := rx3_tf1 y ys hx e w; simpa using this
        · have := rx3_tt1 y ys hx e w; simpa using this
    · have b2 := beq_eq_false_iff_ne.2 h2
      have b3 := beq_eq_false_iff_ne.2 h3
      have q : ∀ s, texT c s g d e = (if s then [45] else []) ++ (dgT d ++ exT e) := fun s => by
        unfold texT bodT; rw [if_neg h2, if_neg h3]; rfl
      rw [q]
      unfold dgT exT
      by_cases h0 : d = [] <;> by_cases h1 : e = 0
      · subst h0 h1
        cases s
        · exact rxo_f01 g c b2 b3 w
        · exact rxo_t01 g c b2 b3 w
      · subst h0
        rw [if_pos rfl, if_neg h1]
        cases s
        · have := rxo_f00 g c b2 b3 e (bne_iff_ne.2 h1) he w hT; simpa using this
        · have := rxo_t00 g c b2 b3 e (bne_iff_ne.2 h1) he w hT; simpa using this
      · subst h1
        obtain ⟨y, ys, rfl⟩ : ∃ y ys, d = y :: ys := by cases d with | nil => exact absurd rfl h0 | cons y ys => exact ⟨y, ys, rfl⟩
        have hx : ys.length < 100000 := by rw [List.length_cons] at hd; omega
        rw [if_neg h0, if_pos rfl]
        cases s
        · have := rxo_f11 g c b2 b3 y ys hx w; simpa using this
        · have := rxo_t11 g c b2 b3 y ys hx w; simpa using this
      · obtain ⟨y, ys, rfl⟩ : ∃ y ys, d = y :: ys := by cases d with | nil => exact absurd rfl h0 | cons y ys => exact ⟨y, ys, rfl⟩
        have hx : ys.length < 100000 := by rw [List.length_cons] at hd; omega
        rw [if_neg h0, if_neg h1]
        cases s
        · have := rxo_f10 g c b2 b3 y ys hx e (bne_iff_ne.2 h1) he w hT; simpa using this
        · have := rxo_t10 g c b2 b3 y ys hx e (bne_iff_ne.2 h1) he w hT; simpa using this
end Go.Proofs.YtoobncgmcnmgjaaGreatDoor

namespace Go.Proofs.YtoobncgmcnmgjaaGreatDoor
open Go.RowKit

attribute [local irreducible] W4 Nz Nt
section
variable (n d : Int) (nm : ByteArray) (wd : Int) (f e : Nat) (l m : Int) (w : World) (hT : Tab w)
include hT
variable (c54 : ∀ W, Tab W → Calls Tryz.prog 74 #[.int .i64 n] W fun r w' => r = .returned (.tuple #[DI n nm wd f e l m, .int .i64 0]) ∧ Below W.heap.size W w')
include c54
end
/-- the number of digits -/
def dV (l : List UInt8) : Nat := (numV (B l) (B l).size).toNat
theorem sb_by (l : List UInt8) (i : Nat) : sb (B l) i = by_ l i := by
  unfold sb by_
  by_cases h : i < l.length
  · rw [dif_pos (show i < (B l).size from h), dif_pos h, B_get]
  · rw [dif_neg (show ¬ i < (B l).size from h), dif_neg h]
theorem dig_B {l : List UInt8} (h : l.all dg = true) : digB (B l) (B l).size = true := by
  refine digB_of _ fun k hk => ?_
  rw [sb_by]
  have hk' : k < l.length := hk
  have h1 := List.all_eq_true.1 h (l[k]'hk') (List.getElem_mem hk')
  unfold dg at h1
  unfold by_
  rw [dif_pos hk']
  have := of_decide_eq_true h1
  omega
theorem dV_lt {l : List UInt8} (h : l.all dg = true) : dV l < 10 ^ l.length ∧ (dV l : Int) = numV (B l) (B l).size := by
  obtain ⟨a, b⟩ := numV_bd _ (dig_B h)
  unfold dV
  generalize numV (B l) (B l).size = V at *
  rw [B_size] at b
  have : ((10 : Int) ^ l.length) = ((10 ^ l.length : Nat) : Int) := by simp
  rw [this] at b
  exact ⟨by omega, by omega⟩
theorem bl_10 {A L k : Nat} (h : A < 10 ^ L) (hk : 4 * L ≤ k) : bl A ≤ k := by
  refine bl_le.2 (Nat.lt_of_lt_of_le h ?_)
  have h1 : 10 ^ L ≤ 16 ^ L := Nat.pow_le_pow_left (by decide) L
  have h2 : (16 : Nat) ^ L = 2 ^ (4 * L) := by rw [Nat.pow_mul]
  exact Nat.le_trans h1 (h2 ▸ Nat.pow_le_pow_right (by decide) hk)
end Go.Proofs.YtoobncgmcnmgjaaGreatDoor

namespace Go.Proofs.YtoobncgmcnmgjaaGreatDoor
open Go.RowKit

theorem five_bl (k : Nat) : bl (5 ^ k) ≤ 3 * k + 1 := by
  refine bl_le.2 ?_
  have h1 : 5 ^ k ≤ 8 ^ k := Nat.pow_le_pow_left (by decide) k
  have h2 : (8 : Nat) ^ k = 2 ^ (3 * k) := by rw [Nat.pow_mul]
  have h3 : (2 : Nat) ^ (3 * k) < 2 ^ (3 * k + 1) := Nat.pow_lt_pow_right (by decide) (by omega)
  omega
theorem bl_mul (a b : Nat) : bl (a * b) ≤ bl a + bl b := by
  refine bl_le.2 ?_
  rw [Nat.pow_add]
  have h1 := bl_le.1 (Nat.le_refl (bl a))
  have h2 := bl_le.1 (Nat.le_refl (bl b))
  exact Nat.mul_lt_mul'' h1 h2
attribute [local irreducible] W4 Nz Nt
section
variable (n d : Int) (c : Int) (s g : Bool) (l : List UInt8) (x e : Int) (A P R : Nat) (F E : Int) (w : World) (hT : Tab w) (heb : -20000 ≤ e ∧ e ≤ 20000)
  (c65 : ∀ W, Calls Tryz.prog 112 #[PV c s g l x] W fun r w' => r = .returned (.int .i64 e) ∧ Below W.heap.size W w')
  (c66 : ∀ W, Calls Tryz.prog 113 #[.string (B l)] W fun r w' => ∃ v, r = .returned v ∧ Nz 251 A v w' ∧ Below W.heap.size W w')
include hT heb c65 c66
end
section
variable (n d : Int) (c : Int) (s g : Bool) (l : List UInt8) (x : Int) (T : List UInt8) (nm : ByteArray) (wd : Int) (f e : Nat) (lo m : Int) (w : World) (hT : Tab w)
include hT
variable (c28 : ∀ W, Tab W → Calls Tryz.prog 43 #[.int .i64 n, .int .i64 d] W fun r w' => r = .returned (.tuple #[DI n nm wd f e lo m, .int .i64 0]) ∧ Below W.heap.size W w')
include c28
variable (c31 : ∀ W, Below w.heap.size w W → Calls Tryz.prog 79 #[PV c s g l x] W fun r w' => r = .returned (.tuple #[.string (B T), .int .i64 0]) ∧ Below W.heap.size W w')
include c31
end
end Go.Proofs.YtoobncgmcnmgjaaGreatDoor

namespace Go.Proofs.YtoobncgmcnmgjaaGreatDoor
open Go.RowKit

theorem NT.nz {K V : Nat} {v : Value} {w : World} (h : NT K V v w) : Nz K V v w := by
  obtain ⟨g, k, cap, z, h1, h2, h3, h4, h5⟩ := h
  exact ⟨_, k, cap, z, h1, h2, h3, h4, h5⟩
theorem NT.nt {K V : Nat} {v : Value} {w : World} (h : NT K V v w) : Nt K V v w := h.nz.nt
theorem nmul_w {K K' A P : Nat} {v v' : Value} {w : World} (hK : K < 100000000) (hK' : K' < 100000000) (h : Nt K A v w) (h' : Nt K' P v' w) (hb : bl A + bl P ≤ 127000) :
    Calls Tryz.prog 115 #[v, v'] w fun r w' => ∃ q, r = .returned (.tuple #[q, .int .i64 0]) ∧ NT 2001 (A * P) q w' ∧ Below w.heap.size w w' := by
  obtain ⟨a, k, cap, z, rfl, hk, hN, hv⟩ := h
  obtain ⟨a', k', cap', z', rfl, hk', hN', hv'⟩ := h'
  have s1 := (size_bl (m := (bl A + 63) / 64) hN.2.2.1 hv).2 (by omega)
  have s2 := (size_bl (m := (bl P + 63) / 64) hN'.2.2.1 hv').2 (by omega)
  refine (nmul_any a a' k cap k' cap' z z' w (by omega) (by omega) hN hN' (by omega)).mono fun r w' ⟨g, q, cp, y, e1, hq, hNq, hvq, hsq, hB⟩ => ⟨_, e1, ⟨g, q, cp, y, rfl, by omega, hNq, ?_, hsq⟩, hB⟩
  rw [hvq, hv, hv']; simp
theorem nshl_w {K V : Nat} {v : Value} {w : World} (d : Nat) (hK : K < 100000000) (h : Nt K V v w) (hd : bl V + d ≤ 127000) :
    Calls Tryz.prog 143 #[v, .int .i64 (d : Int)] w fun e w' => ∃ r, e = .returned (.tuple #[r, .int .i64 0]) ∧ NT 2001 (V * 2 ^ d) r w' ∧ Below w.heap.size w w' := by
  obtain ⟨a, k, cap, z, rfl, hk, hN, hv⟩ := h
  have hs := (size_bl (m := (bl V + 63) / 64) hN.2.2.1 hv).2 (by omega)
  refine (nshl_any a k cap z d w (by omega) hN (by omega) (by omega)).mono fun e w' ⟨g, k', cap', z', h1, h2, h3, h4, h5, h6⟩ => ⟨_, h1, ⟨g, k', cap', z', rfl, h2, h3, ?_, h5⟩, h6⟩
  rw [h4, hv]; simp
theorem npow5z (m : Nat) (w : World) (hm : m ≤ 12000) : Calls Tryz.prog 114 #[.int .i64 5, .int .i64 (m : Int)] w fun r w' => ∃ v, r = .returned (.tuple #[v, .int .i64 0]) ∧ NT 2001 (5 ^ m) v w' ∧ Below w.heap.size w w' := by
  refine (npow_any 5 m w (Or.inl rfl) hm).mono fun r w' ⟨g, k, cap, z, e1, hk, hN, hv, hs, hB⟩ => ⟨_, e1, ⟨g, k, cap, z, rfl, hk, hN, ?_, hs⟩, hB⟩
  rw [hv]; simp
theorem nt_un1 {W : World} {g V : Nat} {vi : Int} (hg : g = W.heap.size) (hv : vi = (V : Int)) (hb : V < 18446744073709551616) (h0 : V ≠ 0) : NT 1 V (.slice (some ⟨g, 0, none⟩) 1 1) (W.alloc (.cells #[.int .u64 vi] 22)) := by
  subst hg hv
  refine ⟨_, 1, 1, oneW V, rfl, Nat.le_refl _, num_one W V (by omega), val_one1 V, ?_⟩
  have : oneW (V : Int) 0 ≠ 0 := by simp [oneW]; omega
  simp [sizeL, this]
theorem npow2z (m : Nat) (w : World) (hm : m ≤ 12000) : Calls Tryz.prog 114 #[.int .i64 2, .int .i64 (m : Int)] w fun r w' => ∃ v, r = .returned (.tuple #[v, .int .i64 0]) ∧ Nt 2001 (2 ^ m) v w' ∧ Below w.heap.size w w' := by
  refine (npow_two m w hm).mono fun r w' ⟨g, k, cap, z, e1, hk, hN, hv, hs, hB⟩ => ⟨_, e1, ⟨_, k, cap, z, rfl, hk, hN, ?_⟩, hB⟩
  rw [hv]; simp
theorem bl_small {m : Nat} (hm : m ≤ 10) : bl m ≤ 4 := bl_le.2 (by omega)
attribute [local irreducible] W4 Nz Nt NT
set_option maxHeartbeats 1000000 in
theorem times_v {A : Nat} {v : Value} {w : World} (m : Nat) (hm : m ≤ 10) (h : Nt 2001 A v w) (hb : bl A ≤ 126000) :
    Calls Tryz.prog 98 #[v, .int .u64 (m : Int)] w fun r w' => ∃ q, r = .returned q ∧ NT 2001 (A * m) q w' ∧ Below w.heap.size w w' := by
  have hbm := bl_small hm
  have c114 : ∀ W v', Below w.heap.size w W → Nt 1 m v' W → Calls Tryz.prog 115 #[v, v'] W fun r w' => ∃ q, r = .returned (.tuple #[q, .int .i64 0]) ∧ NT 2001 (A * m) q w' ∧ Below W.heap.size W w' := fun W v' hW hv' => nmul_w (by decide) (by decide) (h.next hW) hv' (by omega)
  go_enter Tryz.func98, Tryz.ntmps98
  go_wp2_with (go_at_call 115; refine (c114 _ _ bgo (nt_one (by simp) rfl (by omega))).mono ?_; rintro r w1 ⟨q, rfl, hq, hb1⟩)
  go_ret
  exact ⟨q, rfl, hq, bnx (below1 w _) hb1⟩
/-- the coefficient of a datum, in its place -/
theorem nt_at {W : World} {g k : Nat} (hk : k < 2 ^ 256) (hg : g < W.heap.size) (h0 : W.cell? ⟨g, 4, none⟩ = some (.int .u64 (W4 k 0))) (h1 : W.cell? ⟨g, 5, none⟩ = some (.int .u64 (W4 k 1))) (h2 : W.cell? ⟨g, 6, none⟩ = some (.int .u64 (W4 k 2))) (h3 : W.cell? ⟨g, 7, none⟩ = some (.int .u64 (W4 k 3))) :
    Nt 4 k (.slice (some ⟨g, 4, none⟩) 4 4) W := by
  unfold Nt
  refine ⟨some ⟨g, 4, none⟩, 4, 4, fun i => if i < 4 then W4 k i else 0, rfl, Nat.le_refl _, ⟨Nat.le_refl _, by unfold maxLen; omega, fun i => ?_, fun i hi => if_neg (by omega), Or.inr ⟨g, 4, rfl, hg, fun i hi => ?_⟩⟩, ?_⟩
  · dsimp only
    split
    · exact W4_words k i
    · exact ⟨Int.le_refl _, by decide⟩
  · have : i = 0 ∨ i = 1 ∨ i = 2 ∨ i = 3 := by omega
    rcases this with rfl | rfl | rfl | rfl
    · exact h0
    · exact h1
    · exact h2
    · exact h3
  · have e := W4_val4 hk
    rw [← e]
    simp [val]
theorem gs_bd (y : Int) (h : -200000 ≤ y ∧ y ≤ 200000) : -100000 ≤ (y * 30103).tdiv 100000 ∧ (y * 30103).tdiv 100000 ≤ 100000 := by
  by_cases h0 : 0 ≤ y
  · rw [Int.tdiv_eq_ediv_of_nonneg (by omega)]; omega
  · rw [show y * 30103 = -(-y * 30103) by omega, Int.neg_tdiv, Int.tdiv_eq_ediv_of_nonneg (by omega)]; omega
/-- the guessed place of the first digit -/
def gsP (k : Nat) (x : Int) : Int := (((bl k : Int) - 1 + x) * 30103).tdiv 100000 - 1
set_option maxHeartbeats 1000000 in
theorem guess_v (c : Int) (s g : Bool) (x : Int) (k : Nat) (w : World) (hk : k < 2 ^ 256) (hx : -100000 ≤ x ∧ x ≤ 100000) :
    Calls Tryz.prog 96 #[DV c s g x k] w fun r w' => r = .returned (.int .i64 (gsP k x)) ∧ Below w.heap.size w w' := by
  have hbk : bl k ≤ 256 := bl_le.2 hk
  have hgs := gs_bd ((bl k : Int) - 1 + x) (by omega)
  have hn0 : Nt 4 k (.slice (some ⟨w.heap.size, 4, none⟩) 4 4) (w.alloc (.cells #[.int .i64 c, .bool s, .bool g, .int .i64 x, .int .u64 (W4 k 0), .int .u64 (W4 k 1), .int .u64 (W4 k 2), .int .u64 (W4 k 3)] 35)) := nt_at hk (by simp) (by go_simp) (by go_simp) (by go_simp) (by go_simp)
  have c116 : ∀ W, Below (w.alloc (.cells #[.int .i64 c, .bool s, .bool g, .int .i64 x, .int .u64 (W4 k 0), .int .u64 (W4 k 1), .int .u64 (W4 k 2), .int .u64 (W4 k 3)] 35)).heap.size (w.alloc (.cells #[.int .i64 c, .bool s, .bool g, .int .i64 x, .int .u64 (W4 k 0), .int .u64 (W4 k 1), .int .u64 (W4 k 2), .int .u64 (W4 k 3)] 35)) W → Calls Tryz.prog 117 #[.slice (some ⟨w.heap.size, 4, none⟩) 4 4] W fun e w' => e = .returned (.int .i64 (bl k : Int)) ∧ Below W.heap.size W w' := fun W hW => (nlen_v (by decide) (hn0.next hW)).mono fun e w' ⟨h1, h2⟩ => ⟨h1, h2 ▸ Below.refl _ _⟩
  have hb0 := below1 w (.cells #[.int .i64 c, .bool s, .bool g, .int .i64 x, .int .u64 (W4 k 0), .int .u64 (W4 k 1), .int .u64 (W4 k 2), .int .u64 (W4 k 3)] 35)
  have hsm := cell_set_map
  unfold DV
  go_enter Tryz.func96, Tryz.ntmps96
  go_wp2
  refine wp_whole (by kernel_rfl) (by kernel_rfl) fun hne hcell => ?_
  repeat go_big_quiet_step (fail)
  go_big_quiet_step ((go_at_call 117; exact calls_wd _ bk_next (c116 _ (Wd.h _))))
  repeat go_big_quiet_step (fail)
  refine wpQuiet_nil fun w1 hb1 => ?_
  have hA1 := bnx hb0 hb1
  go_wp2
  go_ret
  exact ⟨rfl, hA1⟩
end Go.Proofs.YtoobncgmcnmgjaaGreatDoor
