/-
  What the texts below lack: Mt, Ga, Gd, Gt, Gu, Hb, Dec, Dig, Su9.
-/
import Derived.Test.YtckkibmehjlgaaaGreatDoorJ16
import Derived.Test.YtckkibmehjlgaaaGreatDoorJ19
import Derived.Deep.QuietTactic
import Derived.BigQuiet
import Derived.Lib.Strings
import Derived.Test.YtckkibmehjlgaaaGreatDoorJ20
import Derived.Lib.AppendStr
import Derived.Lib.Builder
import Derived.Deep.AppendLies
import Derived.Test.YtckkibmehjlgaaaGreatDoorJ1
import Derived.Test.YtckkibmehjlgaaaGreatDoorJ8
import Derived.Laws.BytesArg
import Derived.Test.YtckkibmehjlgaaaGreatDoorJ25
import Derived.Test.YtckkibmehjlgaaaGreatDoorJ26
import Derived.Test.YtckkibmehjlgaaaGreatDoorJ31
set_option linter.unusedSectionVars false
set_option linter.unusedVariables false
set_option linter.unusedSimpArgs false
set_option maxRecDepth 20000
namespace Go.Proofs.YtckkibmehjlgaaaGreatDoor

theorem unD_k (n : Int) (B : Nat) : (unD n B).k < 2 ^ 256 := by
  unfold unD
  by_cases h : goodN n B
  · rw [if_pos h]
    obtain ⟨S, E, F, hS, hE, hFr, hB⟩ := fields_in h.2
    rw [hB, unp_mean _ hS hE hFr]
    exact (mean_isD (bin_fm h.1) hS hE hFr).2.2
  · rw [if_neg h]; decide
end Go.Proofs.YtckkibmehjlgaaaGreatDoor

namespace Go.Proofs.YtckkibmehjlgaaaGreatDoor
open Go.RowKit

theorem gbcell {W w1 : World} (hb : Below W.heap.size W w1) : (∀ b o, b < W.heap.size → w1.cell? ⟨b, o, none⟩ = W.cell? ⟨b, o, none⟩) ∧ (∀ b o, b < W.heap.size → w1.frozen? ⟨b, o, none⟩ = W.frozen? ⟨b, o, none⟩) :=
  ⟨fun b o h => hb.cell (p := ⟨b, o, none⟩) h, fun b o h => hb.frozen (p := ⟨b, o, none⟩) h⟩
theorem gbnext {w0 W W' : World} (h : Below w0.heap.size w0 W) (hb : Below W.heap.size W W') : Below w0.heap.size w0 W' := h.trans (hb.mono h.size)
theorem glt_below {n g : Nat} {W W' : World} (hb : Below n W W') (h : g < W.heap.size) : g < W'.heap.size := Nat.lt_of_lt_of_le h hb.size
theorem gcell_set_map (W : World) (b i : Nat) (v : Value) : (W.setCell ⟨b, i, none⟩ v).cell? ⟨b, i, none⟩ = (W.cell? ⟨b, i, none⟩).map fun _ => v := by
  unfold World.cell? World.setCell
  simp only [Array.getElem?_modify, if_true]
  cases h : W.heap[b]? with
  | none => simp
  | some o =>
    cases o with
    | cells c e fr =>
      simp only [Option.map_some, Option.isSome_none, Bool.false_eq_true, if_false]
      by_cases hi : i < c.size
      · simp [hi]
      · simp [hi]
    | _ => simp
end Go.Proofs.YtckkibmehjlgaaaGreatDoor

namespace Go.Proofs.YtckkibmehjlgaaaGreatDoor
open Go.RowKit

theorem B_drop (l : List UInt8) (k : Nat) : (B l).extract k (B l).size = B (l.drop k) := by
  rw [B_ext, B_size, List.take_length]
end Go.Proofs.YtckkibmehjlgaaaGreatDoor

namespace Go.Proofs.YtckkibmehjlgaaaGreatDoor
open Go.RowKit

/-- an exponent's text -/
def exT (e : Int) : List UInt8 := if e = 0 then [] else 101 :: Lib.itoa e
def dgT (d : List UInt8) : List UInt8 := if d = [] then [48] else d
end Go.Proofs.YtckkibmehjlgaaaGreatDoor

namespace Go.Proofs.YtckkibmehjlgaaaGreatDoor
open Go.RowKit

def nanT (g : Bool) (d : List UInt8) : List UInt8 := (if g then [115] else []) ++ ([110, 97, 110] ++ (if d = [] then [] else 40 :: (d ++ [41])))
def finT (d : List UInt8) (e : Int) : List UInt8 := dgT d ++ exT e
def bodT (c : Int) (g : Bool) (d : List UInt8) (e : Int) : List UInt8 := if c = 2 then [105, 110, 102] else if c = 3 then nanT g d else finT d e
def texT (c : Int) (s g : Bool) (d : List UInt8) (e : Int) : List UInt8 := (if s then [45] else []) ++ bodT c g d e
end Go.Proofs.YtckkibmehjlgaaaGreatDoor

namespace Go.Proofs.YtckkibmehjlgaaaGreatDoor
open Go.RowKit

set_option maxHeartbeats 2000000 in
theorem rx2_f (g : Bool) (d : List UInt8) (e : Int) (w : World) :
    Calls Tryz.prog 72 #[PV 2 false g d e] w fun x w' => x = .returned (.string (B ([] ++ [105, 110, 102]))) ∧ Below w.heap.size w w' := by
  have htl := B_toList
  have hsm := gcell_set_map
  have hn0 : B [] = ⟨#[]⟩ := rfl
  have p0 : (⟨#[]⟩ : ByteArray) ++ (⟨#[105, 110, 102]⟩ : ByteArray) = B ([] ++ [105, 110, 102]) := B_app ([]) ([105, 110, 102])
  have z0 : (B ([] ++ [105, 110, 102])).size = 3 := by rw [B_size]; simp only [List.length_append, List.length_cons, List.length_nil]; try omega
  generalize ([] ++ [105, 110, 102] : List UInt8) = L0 at *
  unfold PV
  go_enter Tryz.func72, Tryz.ntmps72
  go_wp2
  go_ret
  exact ⟨rfl, bgo⟩
set_option maxHeartbeats 2000000 in
theorem rx3_ff0 (e : Int) (w : World) :
    Calls Tryz.prog 72 #[PV 3 false false [] e] w fun x w' => x = .returned (.string (B ([] ++ [110, 97, 110]))) ∧ Below w.heap.size w w' := by
  have htl := B_toList
  have hsm := gcell_set_map
  have hn0 : B [] = ⟨#[]⟩ := rfl
  have p0 : (⟨#[]⟩ : ByteArray) ++ (⟨#[110, 97, 110]⟩ : ByteArray) = B ([] ++ [110, 97, 110]) := B_app ([]) ([110, 97, 110])
  have z0 : (B ([] ++ [110, 97, 110])).size = 3 := by rw [B_size]; simp only [List.length_append, List.length_cons, List.length_nil]; try omega
  generalize ([] ++ [110, 97, 110] : List UInt8) = L0 at *
  unfold PV
  go_enter Tryz.func72, Tryz.ntmps72
  go_wp2
  go_ret
  exact ⟨rfl, bgo⟩
set_option maxHeartbeats 2000000 in
theorem rx3_ff1 (y : UInt8) (ys : List UInt8) (hd : ys.length < 100000) (e : Int) (w : World) :
    Calls Tryz.prog 72 #[PV 3 false false (y :: ys) e] w fun x w' => x = .returned (.string (B (((([] ++ [110, 97, 110]) ++ [40]) ++ (y :: ys)) ++ [41]))) ∧ Below w.heap.size w w' := by
  have htl := B_toList
  have hsm := gcell_set_map
  have hsz : (B (y :: ys)).size = ys.length + 1 := B_size (y :: ys)
  have p0 : (⟨#[]⟩ : ByteArray) ++ (⟨#[110, 97, 110]⟩ : ByteArray) = B ([] ++ [110, 97, 110]) := B_app ([]) ([110, 97, 110])
  have z0 : (B ([] ++ [110, 97, 110])).size = 3 := by rw [B_size]; simp only [List.length_append, List.length_cons, List.length_nil]; try omega
  generalize ([] ++ [110, 97, 110] : List UInt8) = L0 at *
  have p1 : B L0 ++ (⟨#[40]⟩ : ByteArray) = B (L0 ++ [40]) := B_app (L0) ([40])
  have z1 : (B (L0 ++ [40])).size = 4 := by have h := z0; rw [B_size] at h ⊢; simp only [List.length_append, List.length_cons, List.length_nil]; omega
  generalize (L0 ++ [40] : List UInt8) = L1 at *
  have p2 : B L1 ++ B (y :: ys) = B (L1 ++ (y :: ys)) := B_app (L1) ((y :: ys))
  have z2 : (B (L1 ++ (y :: ys))).size = ys.length + 1 + 4 := by have h := z1; rw [B_size] at h ⊢; simp only [List.length_append, List.length_cons, List.length_nil]; omega
  generalize (L1 ++ (y :: ys) : List UInt8) = L2 at *
  have p3 : B L2 ++ (⟨#[41]⟩ : ByteArray) = B (L2 ++ [41]) := B_app (L2) ([41])
  have z3 : (B (L2 ++ [41])).size = ys.length + 1 + 5 := by have h := z2; rw [B_size] at h ⊢; simp only [List.length_append, List.length_cons, List.length_nil]; omega
  generalize (L2 ++ [41] : List UInt8) = L3 at *
  unfold PV
  go_enter Tryz.func72, Tryz.ntmps72
  go_wp2
  go_ret
  exact ⟨rfl, bgo⟩
set_option maxHeartbeats 2000000 in
theorem rx3_ft0 (e : Int) (w : World) :
    Calls Tryz.prog 72 #[PV 3 false true [] e] w fun x w' => x = .returned (.string (B (([] ++ [115]) ++ [110, 97, 110]))) ∧ Below w.heap.size w w' := by
  have htl := B_toList
  have hsm := gcell_set_map
  have hn0 : B [] = ⟨#[]⟩ := rfl
  have p0 : (⟨#[]⟩ : ByteArray) ++ (⟨#[115]⟩ : ByteArray) = B ([] ++ [115]) := B_app ([]) ([115])
  have z0 : (B ([] ++ [115])).size = 1 := by rw [B_size]; simp only [List.length_append, List.length_cons, List.length_nil]; try omega
  generalize ([] ++ [115] : List UInt8) = L0 at *
  have p1 : B L0 ++ (⟨#[110, 97, 110]⟩ : ByteArray) = B (L0 ++ [110, 97, 110]) := B_app (L0) ([110, 97, 110])
  have z1 : (B (L0 ++ [110, 97, 110])).size = 4 := by have h := z0; rw [B_size] at h ⊢; simp only [List.length_append, List.length_cons, List.length_nil]; omega
  generalize (L0 ++ [110, 97, 110] : List UInt8) = L1 at *
  unfold PV
  go_enter Tryz.func72, Tryz.ntmps72
  go_wp2
  go_ret
  exact ⟨rfl, bgo⟩
set_option maxHeartbeats 2000000 in
theorem rx3_ft1 (y : UInt8) (ys : List UInt8) (hd : ys.length < 100000) (e : Int) (w : World) :
    Calls Tryz.prog 72 #[PV 3 false true (y :: ys) e] w fun x w' => x = .returned (.string (B ((((([] ++ [115]) ++ [110, 97, 110]) ++ [40]) ++ (y :: ys)) ++ [41]))) ∧ Below w.heap.size w w' := by
  have htl := B_toList
  have hsm := gcell_set_map
  have hsz : (B (y :: ys)).size = ys.length + 1 := B_size (y :: ys)
  have p0 : (⟨#[]⟩ : ByteArray) ++ (⟨#[115]⟩ : ByteArray) = B ([] ++ [115]) := B_app ([]) ([115])
  have z0 : (B ([] ++ [115])).size = 1 := by rw [B_size]; simp only [List.length_append, List.length_cons, List.length_nil]; try omega
  generalize ([] ++ [115] : List UInt8) = L0 at *
  have p1 : B L0 ++ (⟨#[110, 97, 110]⟩ : ByteArray) = B (L0 ++ [110, 97, 110]) := B_app (L0) ([110, 97, 110])
  have z1 : (B (L0 ++ [110, 97, 110])).size = 4 := by have h := z0; rw [B_size] at h ⊢; simp only [List.length_append, List.length_cons, List.length_nil]; omega
  generalize (L0 ++ [110, 97, 110] : List UInt8) = L1 at *
  have p2 : B L1 ++ (⟨#[40]⟩ : ByteArray) = B (L1 ++ [40]) := B_app (L1) ([40])
  have z2 : (B (L1 ++ [40])).size = 5 := by have h := z1; rw [B_size] at h ⊢; simp only [List.length_append, List.length_cons, List.length_nil]; omega
  generalize (L1 ++ [40] : List UInt8) = L2 at *
  have p3 : B L2 ++ B (y :: ys) = B (L2 ++ (y :: ys)) := B_app (L2) ((y :: ys))
  have z3 : (B (L2 ++ (y :: ys))).size = ys.length + 1 + 5 := by have h := z2; rw [B_size] at h ⊢; simp only [List.length_append, List.length_cons, List.length_nil]; omega
  generalize (L2 ++ (y :: ys) : List UInt8) = L3 at *
  have p4 : B L3 ++ (⟨#[41]⟩ : ByteArray) = B (L3 ++ [41]) := B_app (L3) ([41])
  have z4 : (B (L3 ++ [41])).size = ys.length + 1 + 6 := by have h := z3; rw [B_size] at h ⊢; simp only [List.length_append, List.length_cons, List.length_nil]; omega
  generalize (L3 ++ [41] : List UInt8) = L4 at *
  unfold PV
  go_enter Tryz.func72, Tryz.ntmps72
  go_wp2
  go_ret
  exact ⟨rfl, bgo⟩
set_option maxHeartbeats 2000000 in
theorem rxo_f00 (g : Bool) (c : Int) (h2 : (c == 2) = false) (h3 : (c == 3) = false) (e : Int) (he0 : (e != 0) = true) (he : -9223372036854775808 ≤ e ∧ e ≤ 9223372036854775807) (w : World) (hT : Tb10 w) :
    Calls Tryz.prog 72 #[PV c false g [] e] w fun x w' => x = .returned (.string (B (((([] ++ [48]) ++ []) ++ [101]) ++ Lib.itoa e))) ∧ Below w.heap.size w w' := by
  have htl := B_toList
  have hsm := gcell_set_map
  have hn0 : B [] = ⟨#[]⟩ := rfl
  have hil := Lib.itoa_length_le e he.1 he.2
  have hisz := B_size (Lib.itoa e)
  have c38 := fun W (hb : Below w.heap.size w W) => itoa_any e W he (hT.next hb)
  have p0 : (⟨#[]⟩ : ByteArray) ++ (⟨#[48]⟩ : ByteArray) = B ([] ++ [48]) := B_app ([]) ([48])
  have z0 : (B ([] ++ [48])).size = 1 := by rw [B_size]; simp only [List.length_append, List.length_cons, List.length_nil]; try omega
  generalize ([] ++ [48] : List UInt8) = L0 at *
  have p1 : B L0 ++ (⟨#[]⟩ : ByteArray) = B (L0 ++ []) := B_app (L0) ([])
  have z1 : (B (L0 ++ [])).size = 1 := by have h := z0; rw [B_size] at h ⊢; simp only [List.length_append, List.length_cons, List.length_nil]; omega
  generalize (L0 ++ [] : List UInt8) = L1 at *
  have p2 : B L1 ++ (⟨#[101]⟩ : ByteArray) = B (L1 ++ [101]) := B_app (L1) ([101])
  have z2 : (B (L1 ++ [101])).size = 2 := by have h := z1; rw [B_size] at h ⊢; simp only [List.length_append, List.length_cons, List.length_nil]; omega
  generalize (L1 ++ [101] : List UInt8) = L2 at *
  have p3 : B L2 ++ B (Lib.itoa e) = B (L2 ++ Lib.itoa e) := B_app (L2) (Lib.itoa e)
  have z3 : (B (L2 ++ Lib.itoa e)).size = (Lib.itoa e).length + 2 := by have h := z2; rw [B_size] at h ⊢; simp only [List.length_append, List.length_cons, List.length_nil]; omega
  generalize (L2 ++ Lib.itoa e : List UInt8) = L3 at *
  unfold PV
  go_enter Tryz.func72, Tryz.ntmps72
  go_wp2_with (first | (go_at_call 53; refine (c38 _ bgo).mono ?_; rintro x w1 ⟨rfl, hb1⟩; obtain ⟨hc1, hf1⟩ := gbcell hb1; have hz1_0 : w.heap.size < w1.heap.size := glt_below hb1 ltg; have hl1_0 := Nat.le_of_lt hz1_0; have hA1 := gbnext (w0 := w) bgo hb1; have hs1 := hA1.size; clear hb1))
  go_ret
  exact ⟨rfl, bgo⟩
set_option maxHeartbeats 2000000 in
theorem rxo_f01 (g : Bool) (c : Int) (h2 : (c == 2) = false) (h3 : (c == 3) = false) (w : World) :
    Calls Tryz.prog 72 #[PV c false g [] 0] w fun x w' => x = .returned (.string (B (([] ++ [48]) ++ []))) ∧ Below w.heap.size w w' := by
  have htl := B_toList
  have hsm := gcell_set_map
  have hn0 : B [] = ⟨#[]⟩ := rfl
  have p0 : (⟨#[]⟩ : ByteArray) ++ (⟨#[48]⟩ : ByteArray) = B ([] ++ [48]) := B_app ([]) ([48])
  have z0 : (B ([] ++ [48])).size = 1 := by rw [B_size]; simp only [List.length_append, List.length_cons, List.length_nil]; try omega
  generalize ([] ++ [48] : List UInt8) = L0 at *
  have p1 : B L0 ++ (⟨#[]⟩ : ByteArray) = B (L0 ++ []) := B_app (L0) ([])
  have z1 : (B (L0 ++ [])).size = 1 := by have h := z0; rw [B_size] at h ⊢; simp only [List.length_append, List.length_cons, List.length_nil]; omega
  generalize (L0 ++ [] : List UInt8) = L1 at *
  unfold PV
  go_enter Tryz.func72, Tryz.ntmps72
  go_wp2
  go_ret
  exact ⟨rfl, bgo⟩
set_option maxHeartbeats 2000000 in
theorem rxo_f10 (g : Bool) (c : Int) (h2 : (c == 2) = false) (h3 : (c == 3) = false) (y : UInt8) (ys : List UInt8) (hd : ys.length < 100000) (e : Int) (he0 : (e != 0) = true) (he : -9223372036854775808 ≤ e ∧ e ≤ 9223372036854775807) (w : World) (hT : Tb10 w) :
    Calls Tryz.prog 72 #[PV c false g (y :: ys) e] w fun x w' => x = .returned (.string (B ((([] ++ (y :: ys)) ++ [101]) ++ Lib.itoa e))) ∧ Below w.heap.size w w' := by
  have htl := B_toList
  have hsm := gcell_set_map
  have hsz : (B (y :: ys)).size = ys.length + 1 := B_size (y :: ys)
  have hil := Lib.itoa_length_le e he.1 he.2
  have hisz := B_size (Lib.itoa e)
  have c38 := fun W (hb : Below w.heap.size w W) => itoa_any e W he (hT.next hb)
  have p0 : (⟨#[]⟩ : ByteArray) ++ B (y :: ys) = B ([] ++ (y :: ys)) := B_app ([]) ((y :: ys))
  have z0 : (B ([] ++ (y :: ys))).size = ys.length + 1 + 0 := by rw [B_size]; simp only [List.length_append, List.length_cons, List.length_nil]; try omega
  generalize ([] ++ (y :: ys) : List UInt8) = L0 at *
  have p1 : B L0 ++ (⟨#[101]⟩ : ByteArray) = B (L0 ++ [101]) := B_app (L0) ([101])
  have z1 : (B (L0 ++ [101])).size = ys.length + 1 + 1 := by have h := z0; rw [B_size] at h ⊢; simp only [List.length_append, List.length_cons, List.length_nil]; omega
  generalize (L0 ++ [101] : List UInt8) = L1 at *
  have p2 : B L1 ++ B (Lib.itoa e) = B (L1 ++ Lib.itoa e) := B_app (L1) (Lib.itoa e)
  have z2 : (B (L1 ++ Lib.itoa e)).size = ys.length + 1 + (Lib.itoa e).length + 1 := by have h := z1; rw [B_size] at h ⊢; simp only [List.length_append, List.length_cons, List.length_nil]; omega
  generalize (L1 ++ Lib.itoa e : List UInt8) = L2 at *
  unfold PV
  go_enter Tryz.func72, Tryz.ntmps72
  go_wp2_with (first | (go_at_call 53; refine (c38 _ bgo).mono ?_; rintro x w1 ⟨rfl, hb1⟩; obtain ⟨hc1, hf1⟩ := gbcell hb1; have hz1_0 : w.heap.size < w1.heap.size := glt_below hb1 ltg; have hl1_0 := Nat.le_of_lt hz1_0; have hA1 := gbnext (w0 := w) bgo hb1; have hs1 := hA1.size; clear hb1))
  go_ret
  exact ⟨rfl, bgo⟩
set_option maxHeartbeats 2000000 in
theorem rxo_f11 (g : Bool) (c : Int) (h2 : (c == 2) = false) (h3 : (c == 3) = false) (y : UInt8) (ys : List UInt8) (hd : ys.length < 100000) (w : World) :
    Calls Tryz.prog 72 #[PV c false g (y :: ys) 0] w fun x w' => x = .returned (.string (B ([] ++ (y :: ys)))) ∧ Below w.heap.size w w' := by
  have htl := B_toList
  have hsm := gcell_set_map
  have hsz : (B (y :: ys)).size = ys.length + 1 := B_size (y :: ys)
  have p0 : (⟨#[]⟩ : ByteArray) ++ B (y :: ys) = B ([] ++ (y :: ys)) := B_app ([]) ((y :: ys))
  have z0 : (B ([] ++ (y :: ys))).size = ys.length + 1 + 0 := by rw [B_size]; simp only [List.length_append, List.length_cons, List.length_nil]; try omega
  generalize ([] ++ (y :: ys) : List UInt8) = L0 at *
  unfold PV
  go_enter Tryz.func72, Tryz.ntmps72
  go_wp2
  go_ret
  exact ⟨rfl, bgo⟩
set_option maxHeartbeats 2000000 in
theorem rx2_t (g : Bool) (d : List UInt8) (e : Int) (w : World) :
    Calls Tryz.prog 72 #[PV 2 true g d e] w fun x w' => x = .returned (.string (B ([45] ++ [105, 110, 102]))) ∧ Below w.heap.size w w' := by
  have htl := B_toList
  have hsm := gcell_set_map
  have hn0 : B [] = ⟨#[]⟩ := rfl
  have p0 : (⟨#[45]⟩ : ByteArray) ++ (⟨#[105, 110, 102]⟩ : ByteArray) = B ([45] ++ [105, 110, 102]) := B_app ([45]) ([105, 110, 102])
  have z0 : (B ([45] ++ [105, 110, 102])).size = 4 := by rw [B_size]; simp only [List.length_append, List.length_cons, List.length_nil]; try omega
  generalize ([45] ++ [105, 110, 102] : List UInt8) = L0 at *
  unfold PV
  go_enter Tryz.func72, Tryz.ntmps72
  go_wp2
  go_ret
  exact ⟨rfl, bgo⟩
set_option maxHeartbeats 2000000 in
theorem rx3_tf0 (e : Int) (w : World) :
    Calls Tryz.prog 72 #[PV 3 true false [] e] w fun x w' => x = .returned (.string (B ([45] ++ [110, 97, 110]))) ∧ Below w.heap.size w w' := by
  have htl := B_toList
  have hsm := gcell_set_map
  have hn0 : B [] = ⟨#[]⟩ := rfl
  have p0 : (⟨#[45]⟩ : ByteArray) ++ (⟨#[110, 97, 110]⟩ : ByteArray) = B ([45] ++ [110, 97, 110]) := B_app ([45]) ([110, 97, 110])
  have z0 : (B ([45] ++ [110, 97, 110])).size = 4 := by rw [B_size]; simp only [List.length_append, List.length_cons, List.length_nil]; try omega
  generalize ([45] ++ [110, 97, 110] : List UInt8) = L0 at *
  unfold PV
  go_enter Tryz.func72, Tryz.ntmps72
  go_wp2
  go_ret
  exact ⟨rfl, bgo⟩
set_option maxHeartbeats 2000000 in
theorem rx3_tf1 (y : UInt8) (ys : List UInt8) (hd : ys.length < 100000) (e : Int) (w : World) :
    Calls Tryz.prog 72 #[PV 3 true false (y :: ys) e] w fun x w' => x = .returned (.string (B (((([45] ++ [110, 97, 110]) ++ [40]) ++ (y :: ys)) ++ [41]))) ∧ Below w.heap.size w w' := by
  have htl := B_toList
  have hsm := gcell_set_map
  have hsz : (B (y :: ys)).size = ys.length + 1 := B_size (y :: ys)
  have p0 : (⟨#[45]⟩ : ByteArray) ++ (⟨#[110, 97, 110]⟩ : ByteArray) = B ([45] ++ [110, 97, 110]) := B_app ([45]) ([110, 97, 110])
  have z0 : (B ([45] ++ [110, 97, 110])).size = 4 := by rw [B_size]; simp only [List.length_append, List.length_cons, List.length_nil]; try omega
  generalize ([45] ++ [110, 97, 110] : List UInt8) = L0 at *
  have p1 : B L0 ++ (⟨#[40]⟩ : ByteArray) = B (L0 ++ [40]) := B_app (L0) ([40])
  have z1 : (B (L0 ++ [40])).size = 5 := by have h := z0; rw [B_size] at h ⊢; simp only [List.length_append, List.length_cons, List.length_nil]; omega
  generalize (L0 ++ [40] : List UInt8) = L1 at *
  have p2 : B L1 ++ B (y :: ys) = B (L1 ++ (y :: ys)) := B_app (L1) ((y :: ys))
  have z2 : (B (L1 ++ (y :: ys))).size = ys.length + 1 + 5 := by have h := z1; rw [B_size] at h ⊢; simp only [List.length_append, List.length_cons, List.length_nil]; omega
  generalize (L1 ++ (y :: ys) : List UInt8) = L2 at *
  have p3 : B L2 ++ (⟨#[41]⟩ : ByteArray) = B (L2 ++ [41]) := B_app (L2) ([41])
  have z3 : (B (L2 ++ [41])).size = ys.length + 1 + 6 := by have h := z2; rw [B_size] at h ⊢; simp only [List.length_append, List.length_cons, List.length_nil]; omega
  generalize (L2 ++ [41] : List UInt8) = L3 at *
  unfold PV
  go_enter Tryz.func72, Tryz.ntmps72
  go_wp2
  go_ret
  exact ⟨rfl, bgo⟩
set_option maxHeartbeats 2000000 in
theorem rx3_tt0 (e : Int) (w : World) :
    Calls Tryz.prog 72 #[PV 3 true true [] e] w fun x w' => x = .returned (.string (B (([45] ++ [115]) ++ [110, 97, 110]))) ∧ Below w.heap.size w w' := by
  have htl := B_toList
  have hsm := gcell_set_map
  have hn0 : B [] = ⟨#[]⟩ := rfl
  have p0 : (⟨#[45]⟩ : ByteArray) ++ (⟨#[115]⟩ : ByteArray) = B ([45] ++ [115]) := B_app ([45]) ([115])
  have z0 : (B ([45] ++ [115])).size = 2 := by rw [B_size]; simp only [List.length_append, List.length_cons, List.length_nil]; try omega
  generalize ([45] ++ [115] : List UInt8) = L0 at *
  have p1 : B L0 ++ (⟨#[110, 97, 110]⟩ : ByteArray) = B (L0 ++ [110, 97, 110]) := B_app (L0) ([110, 97, 110])
  have z1 : (B (L0 ++ [110, 97, 110])).size = 5 := by have h := z0; rw [B_size] at h ⊢; simp only [List.length_append, List.length_cons, List.length_nil]; omega
  generalize (L0 ++ [110, 97, 110] : List UInt8) = L1 at *
  unfold PV
  go_enter Tryz.func72, Tryz.ntmps72
  go_wp2
  go_ret
  exact ⟨rfl, bgo⟩
set_option maxHeartbeats 2000000 in
theorem rx3_tt1 (y : UInt8) (ys : List UInt8) (hd : ys.length < 100000) (e : Int) (w : World) :
    Calls Tryz.prog 72 #[PV 3 true true (y :: ys) e] w fun x w' => x = .returned (.string (B ((((([45] ++ [115]) ++ [110, 97, 110]) ++ [40]) ++ (y :: ys)) ++ [41]))) ∧ Below w.heap.size w w' := by
  have htl := B_toList
  have hsm := gcell_set_map
  have hsz : (B (y :: ys)).size = ys.length + 1 := B_size (y :: ys)
  have p0 : (⟨#[45]⟩ : ByteArray) ++ (⟨#[115]⟩ : ByteArray) = B ([45] ++ [115]) := B_app ([45]) ([115])
  have z0 : (B ([45] ++ [115])).size = 2 := by rw [B_size]; simp only [List.length_append, List.length_cons, List.length_nil]; try omega
  generalize ([45] ++ [115] : List UInt8) = L0 at *
  have p1 : B L0 ++ (⟨#[110, 97, 110]⟩ : ByteArray) = B (L0 ++ [110, 97, 110]) := B_app (L0) ([110, 97, 110])
  have z1 : (B (L0 ++ [110, 97, 110])).size = 5 := by have h := z0; rw [B_size] at h ⊢; simp only [List.length_append, List.length_cons, List.length_nil]; omega
  generalize (L0 ++ [110, 97, 110] : List UInt8) = L1 at *
  have p2 : B L1 ++ (⟨#[40]⟩ : ByteArray) = B (L1 ++ [40]) := B_app (L1) ([40])
  have z2 : (B (L1 ++ [40])).size = 6 := by have h := z1; rw [B_size] at h ⊢; simp only [List.length_append, List.length_cons, List.length_nil]; omega
  generalize (L1 ++ [40] : List UInt8) = L2 at *
  have p3 : B L2 ++ B (y :: ys) = B (L2 ++ (y :: ys)) := B_app (L2) ((y :: ys))
  have z3 : (B (L2 ++ (y :: ys))).size = ys.length + 1 + 6 := by have h := z2; rw [B_size] at h ⊢; simp only [List.length_append, List.length_cons, List.length_nil]; omega
  generalize (L2 ++ (y :: ys) : List UInt8) = L3 at *
  have p4 : B L3 ++ (⟨#[41]⟩ : ByteArray) = B (L3 ++ [41]) := B_app (L3) ([41])
  have z4 : (B (L3 ++ [41])).size = ys.length + 1 + 7 := by have h := z3; rw [B_size] at h ⊢; simp only [List.length_append, List.length_cons, List.length_nil]; omega
  generalize (L3 ++ [41] : List UInt8) = L4 at *
  unfold PV
  go_enter Tryz.func72, Tryz.ntmps72
  go_wp2
  go_ret
  exact ⟨rfl, bgo⟩
set_option maxHeartbeats 2000000 in
theorem rxo_t00 (g : Bool) (c : Int) (h2 : (c == 2) = false) (h3 : (c == 3) = false) (e : Int) (he0 : (e != 0) = true) (he : -9223372036854775808 ≤ e ∧ e ≤ 9223372036854775807) (w : World) (hT : Tb10 w) :
    Calls Tryz.prog 72 #[PV c true g [] e] w fun x w' => x = .returned (.string (B (((([45] ++ [48]) ++ []) ++ [101]) ++ Lib.itoa e))) ∧ Below w.heap.size w w' := by
  have htl := B_toList
  have hsm := gcell_set_map
  have hn0 : B [] = ⟨#[]⟩ := rfl
  have hil := Lib.itoa_length_le e he.1 he.2
  have hisz := B_size (Lib.itoa e)
  have c38 := fun W (hb : Below w.heap.size w W) => itoa_any e W he (hT.next hb)
  have p0 : (⟨#[45]⟩ : ByteArray) ++ (⟨#[48]⟩ : ByteArray) = B ([45] ++ [48]) := B_app ([45]) ([48])
  have z0 : (B ([45] ++ [48])).size = 2 := by rw [B_size]; simp only [List.length_append, List.length_cons, List.length_nil]; try omega
  generalize ([45] ++ [48] : List UInt8) = L0 at *
  have p1 : B L0 ++ (⟨#[]⟩ : ByteArray) = B (L0 ++ []) := B_app (L0) ([])
  have z1 : (B (L0 ++ [])).size = 2 := by have h := z0; rw [B_size] at h ⊢; simp only [List.length_append, List.length_cons, List.length_nil]; omega
  generalize (L0 ++ [] : List UInt8) = L1 at *
  have p2 : B L1 ++ (⟨#[101]⟩ : ByteArray) = B (L1 ++ [101]) := B_app (L1) ([101])
  have z2 : (B (L1 ++ [101])).size = 3 := by have h := z1; rw [B_size] at h ⊢; simp only [List.length_append, List.length_cons, List.length_nil]; omega
  generalize (L1 ++ [101] : List UInt8) = L2 at *
  have p3 : B L2 ++ B (Lib.itoa e) = B (L2 ++ Lib.itoa e) := B_app (L2) (Lib.itoa e)
  have z3 : (B (L2 ++ Lib.itoa e)).size = (Lib.itoa e).length + 3 := by have h := z2; rw [B_size] at h ⊢; simp only [List.length_append, List.length_cons, List.length_nil]; omega
  generalize (L2 ++ Lib.itoa e : List UInt8) = L3 at *
  unfold PV
  go_enter Tryz.func72, Tryz.ntmps72
  go_wp2_with (first | (go_at_call 53; refine (c38 _ bgo).mono ?_; rintro x w1 ⟨rfl, hb1⟩; obtain ⟨hc1, hf1⟩ := gbcell hb1; have hz1_0 : w.heap.size < w1.heap.size := glt_below hb1 ltg; have hl1_0 := Nat.le_of_lt hz1_0; have hA1 := gbnext (w0 := w) bgo hb1; have hs1 := hA1.size; clear hb1))
  go_ret
  exact ⟨rfl, bgo⟩
set_option maxHeartbeats 2000000 in
theorem rxo_t01 (g : Bool) (c : Int) (h2 : (c == 2) = false) (h3 : (c == 3) = false) (w : World) :
    Calls Tryz.prog 72 #[PV c true g [] 0] w fun x w' => x = .returned (.string (B (([45] ++ [48]) ++ []))) ∧ Below w.heap.size w w' := by
  have htl := B_toList
  have hsm := gcell_set_map
  have hn0 : B [] = ⟨#[]⟩ := rfl
  have p0 : (⟨#[45]⟩ : ByteArray) ++ (⟨#[48]⟩ : ByteArray) = B ([45] ++ [48]) := B_app ([45]) ([48])
  have z0 : (B ([45] ++ [48])).size = 2 := by rw [B_size]; simp only [List.length_append, List.length_cons, List.length_nil]; try omega
  generalize ([45] ++ [48] : List UInt8) = L0 at *
  have p1 : B L0 ++ (⟨#[]⟩ : ByteArray) = B (L0 ++ []) := B_app (L0) ([])
  have z1 : (B (L0 ++ [])).size = 2 := by have h := z0; rw [B_size] at h ⊢; simp only [List.length_append, List.length_cons, List.length_nil]; omega
  generalize (L0 ++ [] : List UInt8) = L1 at *
  unfold PV
  go_enter Tryz.func72, Tryz.ntmps72
  go_wp2
  go_ret
  exact ⟨rfl, bgo⟩
set_option maxHeartbeats 2000000 in
theorem rxo_t10 (g : Bool) (c : Int) (h2 : (c == 2) = false) (h3 : (c == 3) = false) (y : UInt8) (ys : List UInt8) (hd : ys.length < 100000) (e : Int) (he0 : (e != 0) = true) (he : -9223372036854775808 ≤ e ∧ e ≤ 9223372036854775807) (w : World) (hT : Tb10 w) :
    Calls Tryz.prog 72 #[PV c true g (y :: ys) e] w fun x w' => x = .returned (.string (B ((([45] ++ (y :: ys)) ++ [101]) ++ Lib.itoa e))) ∧ Below w.heap.size w w' := by
  have htl := B_toList
  have hsm := gcell_set_map
  have hsz : (B (y :: ys)).size = ys.length + 1 := B_size (y :: ys)
  have hil := Lib.itoa_length_le e he.1 he.2
  have hisz := B_size (Lib.itoa e)
  have c38 := fun W (hb : Below w.heap.size w W) => itoa_any e W he (hT.next hb)
  have p0 : (⟨#[45]⟩ : ByteArray) ++ B (y :: ys) = B ([45] ++ (y :: ys)) := B_app ([45]) ((y :: ys))
  have z0 : (B ([45] ++ (y :: ys))).size = ys.length + 1 + 1 := by rw [B_size]; simp only [List.length_append, List.length_cons, List.length_nil]; try omega
  generalize ([45] ++ (y :: ys) : List UInt8) = L0 at *
  have p1 : B L0 ++ (⟨#[101]⟩ : ByteArray) = B (L0 ++ [101]) := B_app (L0) ([101])
  have z1 : (B (L0 ++ [101])).size = ys.length + 1 + 2 := by have h := z0; rw [B_size] at h ⊢; simp only [List.length_append, List.length_cons, List.length_nil]; omega
  generalize (L0 ++ [101] : List UInt8) = L1 at *
  have p2 : B L1 ++ B (Lib.itoa e) = B (L1 ++ Lib.itoa e) := B_app (L1) (Lib.itoa e)
  have z2 : (B (L1 ++ Lib.itoa e)).size = ys.length + 1 + (Lib.itoa e).length + 2 := by have h := z1; rw [B_size] at h ⊢; simp only [List.length_append, List.length_cons, List.length_nil]; omega
  generalize (L1 ++ Lib.itoa e : List UInt8) = L2 at *
  unfold PV
  go_enter Tryz.func72, Tryz.ntmps72
  go_wp2_with (first | (go_at_call 53; refine (c38 _ bgo).mono ?_; rintro x w1 ⟨rfl, hb1⟩; obtain ⟨hc1, hf1⟩ := gbcell hb1; have hz1_0 : w.heap.size < w1.heap.size := glt_below hb1 ltg; have hl1_0 := Nat.le_of_lt hz1_0; have hA1 := gbnext (w0 := w) bgo hb1; have hs1 := hA1.size; clear hb1))
  go_ret
  exact ⟨rfl, bgo⟩
set_option maxHeartbeats 2000000 in
theorem rxo_t11 (g : Bool) (c : Int) (h2 : (c == 2) = false) (h3 : (c == 3) = false) (y : UInt8) (ys : List UInt8) (hd : ys.length < 100000) (w : World) :
    Calls Tryz.prog 72 #[PV c true g (y :: ys) 0] w fun x w' => x = .returned (.string (B ([45] ++ (y :: ys)))) ∧ Below w.heap.size w w' := by
  have htl := B_toList
  have hsm := gcell_set_map
  have hsz : (B (y :: ys)).size = ys.length + 1 := B_size (y :: ys)
  have p0 : (⟨#[45]⟩ : ByteArray) ++ B (y :: ys) = B ([45] ++ (y :: ys)) := B_app ([45]) ((y :: ys))
  have z0 : (B ([45] ++ (y :: ys))).size = ys.length + 1 + 1 := by rw [B_size]; simp only [List.length_append, List.length_cons, List.length_nil]; try omega
  generalize ([45] ++ (y :: ys) : List UInt8) = L0 at *
  unfold PV
  go_enter Tryz.func72, Tryz.ntmps72
  go_wp2
  go_ret
  exact ⟨rfl, bgo⟩
theorem rtext_any (c : Int) (s g : Bool) (d : List UInt8) (e : Int) (w : World) (hd : d.length < 100000) (he : -9223372036854775808 ≤ e ∧ e ≤ 9223372036854775807) (hT : Tb10 w) :
    Calls Tryz.prog 72 #[PV c s g d e] w fun x w' => x = .returned (.string (B (texT c s g d e))) ∧ Below w.heap.size w w' := by
  by_cases h2 : c = 2
  · subst h2
    cases s
    · exact rx2_f g d e w
    · exact rx2_t g d e w
  · by_cases h3 : c = 3
    · subst h3
      by_cases h0 : d = []
      · subst h0
        cases s <;> cases g
        · exact rx3_ff0 e w
        · exact rx3_ft0 e w
        · exact rx3_tf0 e w
        · exact rx3_tt0 e w
      · obtain ⟨y, ys, rfl⟩ : ∃ y ys, d = y :: ys := by cases d with | nil => exact absurd rfl h0 | cons y ys => exact ⟨y, ys, rfl⟩
        have hx : ys.length < 100000 := by rw [List.length_cons] at hd; omega
        have q : ∀ s g, texT 3 s g (y :: ys) e = (if s then [45] else []) ++ ((if g then [115] else []) ++ ([110, 97, 110] ++ (40 :: ((y :: ys) ++ [41])))) := fun s g => by
          show _ ++ nanT g (y :: ys) = _
          unfold nanT; rw [if_neg h0]
        rw [q]
        cases s <;> cases g
        · have := rx3_ff1 y ys hx e w; simpa using this
        · have := rx3_ft1 y ys hx e w; simpa using this
        · have := rx3_tf1 y ys hx e w; simpa using this
        · have := rx3_tt1 y ys hx e w; simpa using this
    · have b2 := beq_eq_false_iff_ne.2 h2
      have b3 := beq_eq_false_iff_ne.2 h3
      have q : ∀ s, texT c s g d e = (if s then [45] else []) ++ (dgT d ++ exT e) := fun s => by
        unfold texT bodT; rw [if_neg h2, if_neg h3]; rfl
      rw [q]
      unfold dgT exT
      by_cases h0 : d = [] <;> by_cases h1 : e = 0
      · subst h0 h1
        cases s
        · exact rxo_f01 g c b2 b3 w
        · exact rxo_t01 g c b2 b3 w
      · subst h0
        rw [if_pos rfl, if_neg h1]
        cases s
        · have := rxo_f00 g c b2 b3 e (bne_iff_ne.2 h1) he w hT; simpa using this
        · have := rxo_t00 g c b2 b3 e (bne_iff_ne.2 h1) he w hT; simpa using this
      · subst h1
        obtain ⟨y, ys, rfl⟩ : ∃ y ys, d = y :: ys := by cases d with | nil => exact absurd rfl h0 | cons y ys => exact ⟨y, ys, rfl⟩
        have hx : ys.length < 100000 := by rw [List.length_cons] at hd; omega
        rw [if_neg h0, if_pos rfl]
        cases s
        · have := rxo_f11 g c b2 b3 y ys hx w; simpa using this
        · have := rxo_t11 g c b2 b3 y ys hx w; simpa using this
      · obtain ⟨y, ys, rfl⟩ : ∃ y ys, d = y :: ys := by cases d with | nil => exact absurd rfl h0 | cons y ys => exact ⟨y, ys, rfl⟩
        have hx : ys.length < 100000 := by rw [List.length_cons] at hd; omega
        rw [if_neg h0, if_neg h1]
        cases s
        · have := rxo_f10 g c b2 b3 y ys hx e (bne_iff_ne.2 h1) he w hT; simpa using this
        · have := rxo_t10 g c b2 b3 y ys hx e (bne_iff_ne.2 h1) he w hT; simpa using this
end Go.Proofs.YtckkibmehjlgaaaGreatDoor

namespace Go.Proofs.YtckkibmehjlgaaaGreatDoor
open Go.RowKit

theorem dgt_step {V r : Int} {L j : Nat} (hr : V / 10 ^ L % 10 ^ 19 = r) (hj : j < 19) : r / 10 ^ j % 10 = dgt V (L + j) := by
  unfold dgt
  rw [← div_div10]
  generalize V / 10 ^ L = W at *
  subst hr
  have h1 : (10 : Int) ^ 19 = 10 ^ j * (10 * 10 ^ (18 - j)) := by
    rw [← Int.mul_assoc, ← Int.pow_succ, ← Int.pow_add]; congr 1; omega
  have hp := p10_pos j
  have hp2 := p10_pos (18 - j)
  rw [h1, emod_mul_ediv' hp]
  exact Int.emod_emod_of_dvd _ ⟨10 ^ (18 - j), rfl⟩
end Go.Proofs.YtckkibmehjlgaaaGreatDoor

namespace Go.Proofs.YtckkibmehjlgaaaGreatDoor
open Go.RowKit

theorem owns_upd {w w' : World} {g base n : Nat} {v : Value} {xs : List Value} (h : w.ownsRow base 5 1 v n xs) (hU : Upd g w w') (hg : g < base) : w'.ownsRow base 5 1 v n xs := by
  obtain ⟨h1, h2⟩ := h
  refine ⟨h1, ?_⟩
  rcases h2 with h2 | ⟨g', cap, cur, e, hb, hh, r⟩
  · exact Or.inl h2
  · exact Or.inr ⟨g', cap, cur, e, hb, (hU.block g' (by omega)).trans hh, r⟩
/-- in the middle of the work: block s words z, the digits so far, all else as it was -/
def DigSt (w0 : World) (V : Int) (s : Nat) (z : Nat → Int) (ao : Option Addr) (L cp : Nat) (wr : World) : Prop :=
  Own w0.heap.size s z wr ∧ wr.ownsRow (w0.heap.size + 1) 5 1 (.slice ao L cp) L (blB V L) ∧ Below w0.heap.size w0 wr ∧ w0.heap.size + 1 ≤ wr.heap.size
end Go.Proofs.YtckkibmehjlgaaaGreatDoor

namespace Go.Proofs.YtckkibmehjlgaaaGreatDoor
open Go.RowKit

attribute [local irreducible] W4
section
variable (n : Int) (c : Int) (s g : Bool) (x : Int) (k : Nat) (D : List UInt8) (e : Int) (w : World) (hT : Tab w) (hT10 : Tb10 w) (he : -100000 ≤ e ∧ e ≤ 100000)
  (c23 : ∀ W, Calls Tryz.prog 23 #[DV 1 s g x k] W fun r w' => r = .returned (.bool false) ∧ Below W.heap.size W w')
  (c24 : ∀ W, Tab W → Calls Tryz.prog 24 #[.int .i64 n, DV 1 s g x k] W fun r w' => r = .returned (.tuple #[.string (B D), .int .i64 e]) ∧ Below W.heap.size W w')
include hT hT10 he c23 c24
set_option maxHeartbeats 4000000 in
theorem uns_m (hD : 1 < D.length) (hD2 : D.length ≤ 1000) : Calls Tryz.prog 39 #[.int .i64 n, DV 1 s g x k] w fun r w' => r = .returned (.string (B (unT D e))) ∧ Below w.heap.size w w' := by
  have hi := itoa_short he
  have c53 := fun W (h : Tb10 W) => itoa_any e W (by omega) h
  have htl := B_toList
  have hsm := cell_set_map
  obtain ⟨m, hm⟩ : ∃ m, D.length = m + 2 := ⟨D.length - 2, by omega⟩
  have hsz : (B D).size = m + 2 := by rw [B_size, hm]
  have HU : Hid (unT D e = ((D.take 1 ++ ([46] ++ D.drop 1)) ++ [101]) ++ Lib.itoa e) := by
    show _ = _
    unfold unT
    rw [if_pos hD]
  have ht : (B D).extract 0 1 = B (D.take 1) := by rw [B_ext, List.drop_zero]
  have hd : (B D).extract 1 (m + 2) = B (D.drop 1) := by have := B_drop D 1; rw [hsz] at this; exact this
  have hm2 : m ≤ 1000 := by omega
  have q0 : (⟨#[46]⟩ : ByteArray) ++ B (D.drop 1) = B ([46] ++ D.drop 1) := B_app [46] _
  have y0 : (B (D.drop 1)).size = m + 1 := by rw [B_size, List.length_drop, hm]; omega
  have y1 : (B ([46] ++ D.drop 1)).size = m + 2 := by rw [B_size, List.length_append, List.length_drop, hm]; simp; omega
  have y2 : (B (D.take 1)).size = 1 := by rw [B_size, List.length_take, hm]; omega
  have p0 : B (D.take 1) ++ B ([46] ++ D.drop 1) = B (D.take 1 ++ ([46] ++ D.drop 1)) := B_app _ _
  have z0 : (B (D.take 1 ++ ([46] ++ D.drop 1))).size = m + 3 := by rw [B_size] at y1 y2 ⊢; rw [List.length_append, y1, y2]; omega
  have p1 : B (D.take 1 ++ ([46] ++ D.drop 1)) ++ (⟨#[101]⟩ : ByteArray) = B ((D.take 1 ++ ([46] ++ D.drop 1)) ++ [101]) := B_app _ [101]
  have z1 : (B ((D.take 1 ++ ([46] ++ D.drop 1)) ++ [101])).size = m + 4 := by rw [B_size] at z0 ⊢; rw [List.length_append, z0]; rfl
  have p2 : B ((D.take 1 ++ ([46] ++ D.drop 1)) ++ [101]) ++ B (Lib.itoa e) = B (((D.take 1 ++ ([46] ++ D.drop 1)) ++ [101]) ++ Lib.itoa e) := B_app _ _
  obtain ⟨il, hil⟩ : ∃ il, (Lib.itoa e).length = il := ⟨_, rfl⟩
  have z2 : (B (Lib.itoa e)).size = il := by rw [B_size]; exact hil
  have hil2 : il ≤ 100 := by omega
  clear hD hD2 hm hi hil
  generalize Lib.itoa e = I at *
  generalize hL3 : ((D.take 1 ++ ([46] ++ D.drop 1)) ++ [101]) ++ I = L3 at *
  generalize hL2 : (D.take 1 ++ ([46] ++ D.drop 1)) ++ [101] = L2 at *
  generalize hL1 : D.take 1 ++ ([46] ++ D.drop 1) = L1 at *
  generalize hL0 : [46] ++ D.drop 1 = L0 at *
  generalize hA : D.take 1 = A0 at *
  generalize hB : D.drop 1 = B0 at *
  clear hL3 hL2 hL1 hL0 hA hB
  unfold DV at *
  go_enter Tryz.func39, Tryz.ntmps39
  go_wp2_with (first
    | (go_at_call 23; refine (c23 _).mono ?_; rintro r w1 ⟨rfl, hb1⟩; obtain ⟨hc1, hf1⟩ := bcell hb1; have hz1_0 : w.heap.size < w1.heap.size := lt_below hb1 ltg; have hl1_0 := Nat.le_of_lt hz1_0; have hA1 := bnext (w0 := w) bgo hb1; have hs1 := hA1.size; clear hb1)
    | (go_at_call 24; refine (c24 _ (hT.go bgo)).mono ?_; rintro r w2 ⟨rfl, hb2⟩; obtain ⟨hc2, hf2⟩ := bcell hb2; have hz2_0 : w.heap.size < w2.heap.size := lt_below hb2 ltg; have hl2_0 := Nat.le_of_lt hz2_0; have hA2 := bnext (w0 := w) bgo hb2; have hs2 := hA2.size; clear hb2)
    | (go_at_call 53; refine (c53 _ (hT10.next bgo)).mono ?_; rintro r w3 ⟨rfl, hb3⟩; obtain ⟨hc3, hf3⟩ := bcell hb3; have hz3_0 : w.heap.size < w3.heap.size := lt_below hb3 ltg; have hl3_0 := Nat.le_of_lt hz3_0; have hA3 := bnext (w0 := w) bgo hb3; have hs3 := hA3.size; clear hb3))
  go_ret
  exact ⟨by rw [HU.out]; rfl, bgo⟩
end
section
variable (n : Int) (Bp : Nat) (c : Int) (s g : Bool) (x : Int) (k : Nat) (w : World) (hT : Tab w) (hT10 : Tb10 w)
include hT
set_option maxHeartbeats 2000000 in
theorem wr_e (E : Int) (hE : (E != 0) = true) (c22 : ∀ W, Tab W → Calls Tryz.prog 22 #[.int .i64 n, A4 Bp] W fun r w' => r = .returned (.tuple #[DV c s g x k, .int .i64 E]) ∧ Below W.heap.size W w') :
    Calls Tryz.prog 12 #[.int .i64 n, A4 Bp] w fun r w' => r = .returned (.tuple #[.string (B []), .int .i64 E]) ∧ Below w.heap.size w w' := by
  have hsm := cell_set_map
  unfold DV A4 at *
  go_enter Tryz.func12, Tryz.ntmps12
  go_wp2_with (go_at_call 22; refine (c22 _ (hT.go bgo)).mono ?_; rintro r w1 ⟨rfl, hb1⟩; obtain ⟨hc1, hf1⟩ := bcell hb1; have hz1_0 : w.heap.size < w1.heap.size := lt_below hb1 ltg; have hl1_0 := Nat.le_of_lt hz1_0; have hA1 := bnext (w0 := w) bgo hb1; have hs1 := hA1.size; clear hb1)
  exact bodyPost_ret (v := .tuple #[.string ⟨#[]⟩, .int .i64 E]) (by simp only [results, Tryz.results12]; go_simp) rfl ⟨rfl, bgo⟩
include hT10
set_option maxHeartbeats 2000000 in
theorem wr_m (T : List UInt8) (hl : T.length ≤ 100000) (hs : s = true) (c22 : ∀ W, Tab W → Calls Tryz.prog 22 #[.int .i64 n, A4 Bp] W fun r w' => r = .returned (.tuple #[DV c s g x k, .int .i64 0]) ∧ Below W.heap.size W w')
    (c39 : ∀ W, Tab W → Tb10 W → Calls Tryz.prog 39 #[.int .i64 n, DV c s g x k] W fun r w' => r = .returned (.string (B T)) ∧ Below W.heap.size W w') :
    Calls Tryz.prog 12 #[.int .i64 n, A4 Bp] w fun r w' => r = .returned (.tuple #[.string (B ([45] ++ T)), .int .i64 0]) ∧ Below w.heap.size w w' := by
  subst hs
  have htl := B_toList
  have hsm := cell_set_map
  have p0 : (⟨#[45]⟩ : ByteArray) ++ B T = B ([45] ++ T) := B_app [45] T
  have z0 : (B T).size = T.length := B_size T
  generalize [45] ++ T = T2 at *
  unfold DV A4 at *
  go_enter Tryz.func12, Tryz.ntmps12
  go_wp2_with (first
    | (go_at_call 22; refine (c22 _ (hT.go bgo)).mono ?_; rintro r w1 ⟨rfl, hb1⟩; obtain ⟨hc1, hf1⟩ := bcell hb1; have hz1_0 : w.heap.size < w1.heap.size := lt_below hb1 ltg; have hl1_0 := Nat.le_of_lt hz1_0; have hA1 := bnext (w0 := w) bgo hb1; have hs1 := hA1.size; clear hb1)
    | (go_at_call 39; refine (c39 _ (hT.go bgo) (hT10.next bgo)).mono ?_; rintro r w2 ⟨rfl, hb2⟩; obtain ⟨hc2, hf2⟩ := bcell hb2; have hz2_0 : w.heap.size < w2.heap.size := lt_below hb2 ltg; have hl2_0 := Nat.le_of_lt hz2_0; have hz2_1 : w1.heap.size < w2.heap.size := lt_below hb2 ltg; have hl2_1 := Nat.le_of_lt hz2_1; have hA2 := bnext (w0 := w) bgo hb2; have hs2 := hA2.size; clear hb2))
  exact bodyPost_ret (v := .tuple #[.string (B T2), .int .i64 0]) (by simp only [results, Tryz.results12]; go_simp) rfl ⟨rfl, bgo⟩
end
end Go.Proofs.YtckkibmehjlgaaaGreatDoor
