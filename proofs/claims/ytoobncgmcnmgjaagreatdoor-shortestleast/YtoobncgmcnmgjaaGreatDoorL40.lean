/-
  Texts that the proof leans on, joined: Sw9, Sx9, Wr9, Sh8, Sy9, Wv9.
-/
import Derived.Test.YtoobncgmcnmgjaaGreatDoorL39
import Derived.Test.YtoobncgmcnmgjaaGreatDoorL1
import Derived.Test.YtoobncgmcnmgjaaGreatDoorL37
import Derived.Test.YtoobncgmcnmgjaaGreatDoorL34
import Derived.Test.YtoobncgmcnmgjaaGreatDoorL29
import Derived.Deep.Cut
import Derived.Deep.CutRange
set_option linter.unusedVariables false
set_option linter.unusedSectionVars false
set_option linter.unusedSimpArgs false
set_option maxRecDepth 20000
namespace Go.Proofs.YtoobncgmcnmgjaaGreatDoor
open Go.RowKit

def sgL (s : Bool) : List UInt8 := if s then [45] else []
attribute [local irreducible] W4
set_option maxHeartbeats 4000000 in
theorem lay_f1 (D : List UInt8) (e : Int) (w : World) (hT10 : Tb10 w) (he : -90000 ≤ e ∧ e ≤ 90000) (hD : D.length = 1) :
    Calls Tryz.prog 20 #[.bool false, .string (B D), .int .i64 e] w fun r w' => r = .returned (.string (B (sgL false ++ unT D (e + D.length - 1)))) ∧ Below w.heap.size w w' := by
  have c53 := fun W (h : Tb10 W) => itoa_any (e + D.length - 1) W (by omega) h
  have hi := itoa_short (e := e + D.length - 1) (by omega)
  have hz : (B D).size = 1 := by rw [B_size, hD]
  have HU : Hid ((sgL false) ++ unT D (e + D.length - 1) = ((([] : List UInt8) ++ D.take 1) ++ [101]) ++ Lib.itoa (e + D.length - 1)) := by
    show _ = _
    unfold unT
    rw [if_neg (show ¬ 1 < D.length by omega)]
    simp [sgL, List.append_assoc]
  generalize (sgL false) ++ unT D (e + D.length - 1) = TT at HU ⊢
  have htl := B_toList
  have ht : (B D).extract 0 1 = B (D.take 1) := by rw [B_ext, List.drop_zero]
  have y2 : (B (D.take 1)).size = 1 := by rw [B_size, List.length_take]; omega
  have p0 : (⟨#[]⟩ : ByteArray) ++ B (D.take 1) = B (([] : List UInt8) ++ D.take 1) := B_app ([] : List UInt8) _
  have z0 : (B (([] : List UInt8) ++ D.take 1)).size = 1 := by rw [B_size] at y2 ⊢; rw [List.length_append, y2]; rfl
  generalize hL2 : ([] : List UInt8) ++ D.take 1 = L2 at *
  have z2 := z0
  have p3 : B L2 ++ (⟨#[101]⟩ : ByteArray) = B (L2 ++ [101]) := B_app _ [101]
  have z3 : (B (L2 ++ [101])).size = 2 := by rw [B_size] at z2 ⊢; rw [List.length_append, z2]; rfl
  generalize hL3 : L2 ++ [101] = L3 at *
  have p4 : B L3 ++ B (Lib.itoa (e + D.length - 1)) = B (L3 ++ Lib.itoa (e + D.length - 1)) := B_app _ _
  obtain ⟨il, hil⟩ : ∃ il, (Lib.itoa (e + D.length - 1)).length = il := ⟨_, rfl⟩
  have z4 : (B (Lib.itoa (e + D.length - 1))).size = il := by rw [B_size]; exact hil
  have hil2 : il ≤ 100 := by omega
  clear hi hil
  generalize Lib.itoa (e + D.length - 1) = I at *
  generalize hL4 : L3 ++ I = L4 at *
  generalize hA : D.take 1 = A0 at *
  generalize hB : D.drop 1 = B0 at *
  clear hL4 hL3 hL2 hA hB
  rw [hD] at c53
  have hee : e + ((1 : Nat) : Int) - 1 = e := by omega
  rw [hee] at c53
  have c53' : ∀ W (y : Int), y = e → Tb10 W → Calls Tryz.prog 53 #[.int .i64 y] W fun r w' => r = .returned (.string (B I)) ∧ Below W.heap.size W w' := by rintro W y rfl h; exact c53 W h
  clear hD hee c53
  go_enter Tryz.func20, Tryz.ntmps20
  go_wp2_with (go_at_call 53; refine (c53' _ _ (by omega) (hT10.next bgo)).mono ?_; rintro r w3 ⟨rfl, hb3⟩)
  go_ret
  exact ⟨by rw [HU.out]; rfl, hb3⟩
set_option maxHeartbeats 4000000 in
theorem lay_fm (D : List UInt8) (e : Int) (w : World) (hT10 : Tb10 w) (he : -90000 ≤ e ∧ e ≤ 90000) (hD : 1 < D.length ∧ D.length ≤ 4000) :
    Calls Tryz.prog 20 #[.bool false, .string (B D), .int .i64 e] w fun r w' => r = .returned (.string (B (sgL false ++ unT D (e + D.length - 1)))) ∧ Below w.heap.size w w' := by
  obtain ⟨m, hm⟩ : ∃ m, D.length = m + 2 := ⟨D.length - 2, by omega⟩
  have hm2 : m ≤ 4000 := by omega
  have c53 := fun W (h : Tb10 W) => itoa_any (e + D.length - 1) W (by omega) h
  have hi := itoa_short (e := e + D.length - 1) (by omega)
  have hz : (B D).size = m + 2 := by rw [B_size, hm]
  have HU : Hid ((sgL false) ++ unT D (e + D.length - 1) = ((((([] : List UInt8) ++ D.take 1) ++ [46]) ++ D.drop 1) ++ [101]) ++ Lib.itoa (e + D.length - 1)) := by
    show _ = _
    unfold unT
    rw [if_pos hD.1]
    simp [sgL, List.append_assoc]
  have HS : Hid (e + ((m + 2 : Nat) : Int) - 1 = e + D.length - 1) := by show _ = _; rw [hm]
  generalize (sgL false) ++ unT D (e + D.length - 1) = TT at HU ⊢
  have htl := B_toList
  have ht : (B D).extract 0 1 = B (D.take 1) := by rw [B_ext, List.drop_zero]
  have y2 : (B (D.take 1)).size = 1 := by rw [B_size, List.length_take]; omega
  have p0 : (⟨#[]⟩ : ByteArray) ++ B (D.take 1) = B (([] : List UInt8) ++ D.take 1) := B_app ([] : List UInt8) _
  have z0 : (B (([] : List UInt8) ++ D.take 1)).size = 1 := by rw [B_size] at y2 ⊢; rw [List.length_append, y2]; rfl
  have hd : (B D).extract 1 (m + 2) = B (D.drop 1) := by have := B_drop D 1; rw [hz] at this; exact this
  have y0 : (B (D.drop 1)).size = m + 1 := by rw [B_size, List.length_drop, hm]; omega
  generalize hL0 : ([] : List UInt8) ++ D.take 1 = L0 at *
  have p1 : B L0 ++ (⟨#[46]⟩ : ByteArray) = B (L0 ++ [46]) := B_app _ [46]
  have z1 : (B (L0 ++ [46])).size = 2 := by rw [B_size] at z0 ⊢; rw [List.length_append, z0]; rfl
  generalize hL1 : L0 ++ [46] = L1 at *
  have p2 : B L1 ++ B (D.drop 1) = B (L1 ++ D.drop 1) := B_app _ _
  have z2 : (B (L1 ++ D.drop 1)).size = m + 3 := by rw [B_size] at z1 y0 ⊢; rw [List.length_append, z1, y0]; omega
  generalize hL2 : L1 ++ D.drop 1 = L2 at *
  have p3 : B L2 ++ (⟨#[101]⟩ : ByteArray) = B (L2 ++ [101]) := B_app _ [101]
  have z3 : (B (L2 ++ [101])).size = m + 4 := by rw [B_size] at z2 ⊢; rw [List.length_append, z2]; rfl
  generalize hL3 : L2 ++ [101] = L3 at *
  have p4 : B L3 ++ B (Lib.itoa (e + D.length - 1)) = B (L3 ++ Lib.itoa (e + D.length - 1)) := B_app _ _
  obtain ⟨il, hil⟩ : ∃ il, (Lib.itoa (e + D.length - 1)).length = il := ⟨_, rfl⟩
  have z4 : (B (Lib.itoa (e + D.length - 1))).size = il := by rw [B_size]; exact hil
  have hil2 : il ≤ 100 := by omega
  clear hi hil
  generalize Lib.itoa (e + D.length - 1) = I at *
  generalize hL4 : L3 ++ I = L4 at *
  generalize hA : D.take 1 = A0 at *
  generalize hB : D.drop 1 = B0 at *
  clear hL4 hL3 hL2 hA hB hL1 hL0
  rw [hm] at c53
  have hee : e + ((m + 2 : Nat) : Int) - 1 = e + m + 1 := by omega
  rw [hee] at c53
  have c53' : ∀ W (y : Int), y = e + m + 1 → Tb10 W → Calls Tryz.prog 53 #[.int .i64 y] W fun r w' => r = .returned (.string (B I)) ∧ Below W.heap.size W w' := by rintro W y rfl h; exact c53 W h
  clear hm hD HS hee c53
  go_enter Tryz.func20, Tryz.ntmps20
  go_wp2_with (go_at_call 53; refine (c53' _ _ (by omega) (hT10.next bgo)).mono ?_; rintro r w3 ⟨rfl, hb3⟩)
  go_ret
  exact ⟨by rw [HU.out]; rfl, hb3⟩
set_option maxHeartbeats 4000000 in
theorem lay_t1 (D : List UInt8) (e : Int) (w : World) (hT10 : Tb10 w) (he : -90000 ≤ e ∧ e ≤ 90000) (hD : D.length = 1) :
    Calls Tryz.prog 20 #[.bool true, .string (B D), .int .i64 e] w fun r w' => r = .returned (.string (B (sgL true ++ unT D (e + D.length - 1)))) ∧ Below w.heap.size w w' := by
  have c53 := fun W (h : Tb10 W) => itoa_any (e + D.length - 1) W (by omega) h
  have hi := itoa_short (e := e + D.length - 1) (by omega)
  have hz : (B D).size = 1 := by rw [B_size, hD]
  have HU : Hid ((sgL true) ++ unT D (e + D.length - 1) = (([45] ++ D.take 1) ++ [101]) ++ Lib.itoa (e + D.length - 1)) := by
    show _ = _
    unfold unT
    rw [if_neg (show ¬ 1 < D.length by omega)]
    simp [sgL, List.append_assoc]
  generalize (sgL true) ++ unT D (e + D.length - 1) = TT at HU ⊢
  have htl := B_toList
  have ht : (B D).extract 0 1 = B (D.take 1) := by rw [B_ext, List.drop_zero]
  have y2 : (B (D.take 1)).size = 1 := by rw [B_size, List.length_take]; omega
  have p0 : (⟨#[45]⟩ : ByteArray) ++ B (D.take 1) = B ([45] ++ D.take 1) := B_app [45] _
  have z0 : (B ([45] ++ D.take 1)).size = 2 := by rw [B_size] at y2 ⊢; rw [List.length_append, y2]; rfl
  generalize hL2 : [45] ++ D.take 1 = L2 at *
  have z2 := z0
  have p3 : B L2 ++ (⟨#[101]⟩ : ByteArray) = B (L2 ++ [101]) := B_app _ [101]
  have z3 : (B (L2 ++ [101])).size = 3 := by rw [B_size] at z2 ⊢; rw [List.length_append, z2]; rfl
  generalize hL3 : L2 ++ [101] = L3 at *
  have p4 : B L3 ++ B (Lib.itoa (e + D.length - 1)) = B (L3 ++ Lib.itoa (e + D.length - 1)) := B_app _ _
  obtain ⟨il, hil⟩ : ∃ il, (Lib.itoa (e + D.length - 1)).length = il := ⟨_, rfl⟩
  have z4 : (B (Lib.itoa (e + D.length - 1))).size = il := by rw [B_size]; exact hil
  have hil2 : il ≤ 100 := by omega
  clear hi hil
  generalize Lib.itoa (e + D.length - 1) = I at *
  generalize hL4 : L3 ++ I = L4 at *
  generalize hA : D.take 1 = A0 at *
  generalize hB : D.drop 1 = B0 at *
  clear hL4 hL3 hL2 hA hB
  rw [hD] at c53
  have hee : e + ((1 : Nat) : Int) - 1 = e := by omega
  rw [hee] at c53
  have c53' : ∀ W (y : Int), y = e → Tb10 W → Calls Tryz.prog 53 #[.int .i64 y] W fun r w' => r = .returned (.string (B I)) ∧ Below W.heap.size W w' := by rintro W y rfl h; exact c53 W h
  clear hD hee c53
  go_enter Tryz.func20, Tryz.ntmps20
  go_wp2_with (go_at_call 53; refine (c53' _ _ (by omega) (hT10.next bgo)).mono ?_; rintro r w3 ⟨rfl, hb3⟩)
  go_ret
  exact ⟨by rw [HU.out]; rfl, hb3⟩
set_option maxHeartbeats 4000000 in
theorem lay_tm (D : List UInt8) (e : Int) (w : World) (hT10 : Tb10 w) (he : -90000 ≤ e ∧ e ≤ 90000) (hD : 1 < D.length ∧ D.length ≤ 4000) :
    Calls Tryz.prog 20 #[.bool true, .string (B D), .int .i64 e] w fun r w' => r = .returned (.string (B (sgL true ++ unT D (e + D.length - 1)))) ∧ Below w.heap.size w w' := by
  obtain ⟨m, hm⟩ : ∃ m, D.length = m + 2 := ⟨D.length - 2, by omega⟩
  have hm2 : m ≤ 4000 := by omega
  have c53 := fun W (h : Tb10 W) => itoa_any (e + D.length - 1) W (by omega) h
  have hi := itoa_short (e := e + D.length - 1) (by omega)
  have hz : (B D).size = m + 2 := by rw [B_size, hm]
  have HU : Hid ((sgL true) ++ unT D (e + D.length - 1) = (((([45] ++ D.take 1) ++ [46]) ++ D.drop 1) ++ [101]) ++ Lib.itoa (e + D.length - 1)) := by
    show _ = _
    unfold unT
    rw [if_pos hD.1]
    simp [sgL, List.append_assoc]
  have HS : Hid (e + ((m + 2 : Nat) : Int) - 1 = e + D.length - 1) := by show _ = _; rw [hm]
  generalize (sgL true) ++ unT D (e + D.length - 1) = TT at HU ⊢
  have htl := B_toList
  have ht : (B D).extract 0 1 = B (D.take 1) := by rw [B_ext, List.drop_zero]
  have y2 : (B (D.take 1)).size = 1 := by rw [B_size, List.length_take]; omega
  have p0 : (⟨#[45]⟩ : ByteArray) ++ B (D.take 1) = B ([45] ++ D.take 1) := B_app [45] _
  have z0 : (B ([45] ++ D.take 1)).size = 2 := by rw [B_size] at y2 ⊢; rw [List.length_append, y2]; rfl
  have hd : (B D).extract 1 (m + 2) = B (D.drop 1) := by have := B_drop D 1; rw [hz] at this; exact this
  have y0 : (B (D.drop 1)).size = m + 1 := by rw [B_size, List.length_drop, hm]; omega
  generalize hL0 : [45] ++ D.take 1 = L0 at *
  have p1 : B L0 ++ (⟨#[46]⟩ : ByteArray) = B (L0 ++ [46]) := B_app _ [46]
  have z1 : (B (L0 ++ [46])).size = 3 := by rw [B_size] at z0 ⊢; rw [List.length_append, z0]; rfl
  generalize hL1 : L0 ++ [46] = L1 at *
  have p2 : B L1 ++ B (D.drop 1) = B (L1 ++ D.drop 1) := B_app _ _
  have z2 : (B (L1 ++ D.drop 1)).size = m + 4 := by rw [B_size] at z1 y0 ⊢; rw [List.length_append, z1, y0]; omega
  generalize hL2 : L1 ++ D.drop 1 = L2 at *
  have p3 : B L2 ++ (⟨#[101]⟩ : ByteArray) = B (L2 ++ [101]) := B_app _ [101]
  have z3 : (B (L2 ++ [101])).size = m + 5 := by rw [B_size] at z2 ⊢; rw [List.length_append, z2]; rfl
  generalize hL3 : L2 ++ [101] = L3 at *
  have p4 : B L3 ++ B (Lib.itoa (e + D.length - 1)) = B (L3 ++ Lib.itoa (e + D.length - 1)) := B_app _ _
  obtain ⟨il, hil⟩ : ∃ il, (Lib.itoa (e + D.length - 1)).length = il := ⟨_, rfl⟩
  have z4 : (B (Lib.itoa (e + D.length - 1))).size = il := by rw [B_size]; exact hil
  have hil2 : il ≤ 100 := by omega
  clear hi hil
  generalize Lib.itoa (e + D.length - 1) = I at *
  generalize hL4 : L3 ++ I = L4 at *
  generalize hA : D.take 1 = A0 at *
  generalize hB : D.drop 1 = B0 at *
  clear hL4 hL3 hL2 hA hB hL1 hL0
  rw [hm] at c53
  have hee : e + ((m + 2 : Nat) : Int) - 1 = e + m + 1 := by omega
  rw [hee] at c53
  have c53' : ∀ W (y : Int), y = e + m + 1 → Tb10 W → Calls Tryz.prog 53 #[.int .i64 y] W fun r w' => r = .returned (.string (B I)) ∧ Below W.heap.size W w' := by rintro W y rfl h; exact c53 W h
  clear hm hD HS hee c53
  go_enter Tryz.func20, Tryz.ntmps20
  go_wp2_with (go_at_call 53; refine (c53' _ _ (by omega) (hT10.next bgo)).mono ?_; rintro r w3 ⟨rfl, hb3⟩)
  go_ret
  exact ⟨by rw [HU.out]; rfl, hb3⟩
theorem lay_v (s : Bool) (D : List UInt8) (e : Int) (w : World) (hT10 : Tb10 w) (he : -90000 ≤ e ∧ e ≤ 90000) (hD : 1 ≤ D.length ∧ D.length ≤ 4000) :
    Calls Tryz.prog 20 #[.bool s, .string (B D), .int .i64 e] w fun r w' => r = .returned (.string (B (sgL s ++ unT D (e + D.length - 1)))) ∧ Below w.heap.size w w' := by
  by_cases h1 : D.length = 1
  · cases s
    · exact lay_f1 D e w hT10 he h1
    · exact lay_t1 D e w hT10 he h1
  · cases s
    · exact lay_fm D e w hT10 he (by omega)
    · exact lay_tm D e w hT10 he (by omega)
end Go.Proofs.YtoobncgmcnmgjaaGreatDoor

namespace Go.Proofs.YtoobncgmcnmgjaaGreatDoor
open Go.RowKit

/-- a payload's digits -/
def dcL (k : Nat) : List UInt8 := if k = 0 then [] else dcD (k : Int) 660
theorem k660 {k : Nat} (hk : k < 2 ^ 256) : (k : Int) < 10 ^ 660 := by
  have h : (2 : Nat) ^ 256 ≤ 10 ^ 100 := by decide
  have h2 : (10 : Int) ^ 100 ≤ 10 ^ 660 := by decide +kernel
  have h3 : ((10 ^ 100 : Nat) : Int) = (10 : Int) ^ 100 := by decide
  omega
theorem dcL_facts {k : Nat} (hk : k < 2 ^ 256) : gdD (dcL k) ∧ dV (dcL k) = k ∧ (dcL k).length ≤ 660 := by
  unfold dcL
  by_cases h : k = 0
  · rw [if_pos h]; exact ⟨Or.inl rfl, by rw [h, dV_nil], by decide⟩
  · rw [if_neg h]
    obtain ⟨h1, h2, h3⟩ := dcD_facts (V := (k : Int)) (L := 660) (by omega) (k660 hk)
    exact ⟨h1, by omega, h3⟩
theorem dec_v {K k : Nat} {v : Value} {w : World} (hK : K ≤ 30) (hk : k < 2 ^ 256) (h : Nt K k v w) : Calls Tryz.prog 17 #[v] w fun r w' => r = .returned (.string (B (dcL k))) ∧ Below w.heap.size w w' := by
  obtain ⟨a, n, c, z, rfl, hn, hN, hz⟩ := h
  obtain ⟨D, d1, d2, d3, d4⟩ := rdec8 (by omega) hN
  obtain ⟨f1, f2, _⟩ := dcL_facts hk
  have : D = dcL k := gd_uniq d1 f1 (by omega)
  subst this
  exact d4 w (Below.refl _ _)
theorem ndig_v {K k : Nat} {v : Value} {w : World} (hK : K ≤ 1000) (hk : k < 2 ^ 256) (hk0 : k ≠ 0) (h : Nt K k v w) : Calls Tryz.prog 104 #[v] w fun r w' => r = .returned (.tuple #[.string (B (dcL k)), .int .i64 0]) ∧ Below w.heap.size w w' := by
  obtain ⟨a, n, c, z, rfl, hn, hN, hz⟩ := h
  have hle := sizeL_le z n
  refine (ndigits_any a n c z w (by omega) hN (by omega)).mono fun r w' ⟨L, hL, he, hB⟩ => ⟨?_, hB⟩
  rw [he, hz] at *
  have h0 : (0 : Int) < k := by omega
  have h660 := k660 hk
  rw [decL_more (Int.le_of_lt h0) hL h660, ← decL_rev h0 h660]
  unfold dcL
  rw [if_neg hk0]
  unfold dcD
  rw [B_of]
attribute [local irreducible] W4 Nt
section
variable (c : Int) (s : Bool) (x : Int) (k : Nat) (w : World)
set_option maxHeartbeats 2000000 in
theorem nan_z (g : Bool) (c23 : ∀ W, Calls Tryz.prog 23 #[DV c s g x k] W fun r w' => r = .returned (.bool true) ∧ Below W.heap.size W w') :
    Calls Tryz.prog 71 #[DV c s g x k] w fun r w' => r = .returned (.string (B (nanT g []))) ∧ Below w.heap.size w w' := by
  have hsm := cell_set_map
  cases g
  · have e : B (nanT false []) = ⟨#[110, 97, 110]⟩ := rfl
    rw [e]
    unfold DV at *
    go_enter Tryz.func71, Tryz.ntmps71
    go_wp2_with (go_at_call 23; refine (c23 _).mono ?_; rintro r w1 ⟨rfl, hb1⟩; obtain ⟨hc1, hf1⟩ := bcell hb1; have hz1_0 : w.heap.size < w1.heap.size := lt_below hb1 ltg; have hl1_0 := Nat.le_of_lt hz1_0; have hA1 := bnext (w0 := w) bgo hb1; have hs1 := hA1.size; clear hb1)
    go_ret
    exact ⟨rfl, bgo⟩
  · have e : B (nanT true []) = ⟨#[115, 110, 97, 110]⟩ := rfl
    rw [e]
    unfold DV at *
    go_enter Tryz.func71, Tryz.ntmps71
    go_wp2_with (go_at_call 23; refine (c23 _).mono ?_; rintro r w1 ⟨rfl, hb1⟩; obtain ⟨hc1, hf1⟩ := bcell hb1; have hz1_0 : w.heap.size < w1.heap.size := lt_below hb1 ltg; have hl1_0 := Nat.le_of_lt hz1_0; have hA1 := bnext (w0 := w) bgo hb1; have hs1 := hA1.size; clear hb1)
    go_ret
    exact ⟨rfl, bgo⟩
variable (P : List UInt8) (hk : k < 2 ^ 256) (hP : P ≠ []) (hPl : P.length ≤ 660)
  (c103 : ∀ W, Nt 4 k (.slice (some ⟨w.heap.size, 4, none⟩) 4 4) W → Calls Tryz.prog 104 #[.slice (some ⟨w.heap.size, 4, none⟩) 4 4] W fun r w' => r = .returned (.tuple #[.string (B P), .int .i64 0]) ∧ Below W.heap.size W w')
include hk hP hPl c103
set_option maxHeartbeats 4000000 in
theorem nan_f (c23 : ∀ W, Calls Tryz.prog 23 #[DV c s false x k] W fun r w' => r = .returned (.bool false) ∧ Below W.heap.size W w') :
    Calls Tryz.prog 71 #[DV c s false x k] w fun r w' => r = .returned (.string (B (nanT false P))) ∧ Below w.heap.size w w' := by
  have hsm := cell_set_map
  have htl := B_toList
  have HU : Hid (nanT false P = ([110, 97, 110] ++ [40] ++ P) ++ [41]) := by show _ = _; unfold nanT; rw [if_neg hP]; simp
  generalize nanT false P = TT at HU ⊢
  have p0 : (⟨#[110, 97, 110]⟩ : ByteArray) ++ (⟨#[40]⟩ : ByteArray) = B ([110, 97, 110] ++ [40]) := B_app [110, 97, 110] [40]
  have z0 : (B ([110, 97, 110] ++ [40])).size = 4 := rfl
  generalize ([110, 97, 110] ++ [40] : List UInt8) = L0 at *
  obtain ⟨m, hm⟩ : ∃ m, P.length = m := ⟨_, rfl⟩
  have y0 : (B P).size = m := by rw [B_size, hm]
  have hm2 : m ≤ 660 := by omega
  have p1 : B L0 ++ B P = B (L0 ++ P) := B_app _ _
  have z1 : (B (L0 ++ P)).size = m + 4 := by rw [B_size] at z0 y0 ⊢; rw [List.length_append, z0, y0]; omega
  generalize hL1 : L0 ++ P = L1 at *
  have p2 : B L1 ++ (⟨#[41]⟩ : ByteArray) = B (L1 ++ [41]) := B_app _ [41]
  generalize hL2 : L1 ++ [41] = L2 at *
  clear hL1 hL2 hP hPl hm
  unfold DV at *
  go_enter Tryz.func71, Tryz.ntmps71
  go_wp2_with (first
    | (go_at_call 23; refine (c23 _).mono ?_; rintro r w1 ⟨rfl, hb1⟩; obtain ⟨hc1, hf1⟩ := bcell hb1; have hz1_0 : w.heap.size < w1.heap.size := lt_below hb1 ltg; have hl1_0 := Nat.le_of_lt hz1_0; have hA1 := bnext (w0 := w) bgo hb1; have hs1 := hA1.size; clear hb1)
    | (go_at_call 104; refine (c103 _ (nt_at hk (by assumption) (by go_simp) (by go_simp) (by go_simp) (by go_simp))).mono ?_; rintro r w2 ⟨rfl, hb2⟩; obtain ⟨hc2, hf2⟩ := bcell hb2; have hz2_0 : w.heap.size < w2.heap.size := lt_below hb2 ltg; have hl2_0 := Nat.le_of_lt hz2_0; have hA2 := bnext (w0 := w) bgo hb2; have hs2 := hA2.size; clear hb2))
  go_ret
  exact ⟨by rw [HU.out]; rfl, bgo⟩
set_option maxHeartbeats 4000000 in
theorem nan_t (c23 : ∀ W, Calls Tryz.prog 23 #[DV c s true x k] W fun r w' => r = .returned (.bool false) ∧ Below W.heap.size W w') :
    Calls Tryz.prog 71 #[DV c s true x k] w fun r w' => r = .returned (.string (B (nanT true P))) ∧ Below w.heap.size w w' := by
  have hsm := cell_set_map
  have htl := B_toList
  have HU : Hid (nanT true P = ([115, 110, 97, 110] ++ [40] ++ P) ++ [41]) := by show _ = _; unfold nanT; rw [if_neg hP]; simp
  generalize nanT true P = TT at HU ⊢
  have p0 : (⟨#[115, 110, 97, 110]⟩ : ByteArray) ++ (⟨#[40]⟩ : ByteArray) = B ([115, 110, 97, 110] ++ [40]) := B_app [115, 110, 97, 110] [40]
  have z0 : (B ([115, 110, 97, 110] ++ [40])).size = 5 := rfl
  generalize ([115, 110, 97, 110] ++ [40] : List UInt8) = L0 at *
  obtain ⟨m, hm⟩ : ∃ m, P.length = m := ⟨_, rfl⟩
  have y0 : (B P).size = m := by rw [B_size, hm]
  have hm2 : m ≤ 660 := by omega
  have p1 : B L0 ++ B P = B (L0 ++ P) := B_app _ _
  have z1 : (B (L0 ++ P)).size = m + 5 := by rw [B_size] at z0 y0 ⊢; rw [List.length_append, z0, y0]; omega
  generalize hL1 : L0 ++ P = L1 at *
  have p2 : B L1 ++ (⟨#[41]⟩ : ByteArray) = B (L1 ++ [41]) := B_app _ [41]
  generalize hL2 : L1 ++ [41] = L2 at *
  clear hL1 hL2 hP hPl hm
  unfold DV at *
  go_enter Tryz.func71, Tryz.ntmps71
  go_wp2_with (first
    | (go_at_call 23; refine (c23 _).mono ?_; rintro r w1 ⟨rfl, hb1⟩; obtain ⟨hc1, hf1⟩ := bcell hb1; have hz1_0 : w.heap.size < w1.heap.size := lt_below hb1 ltg; have hl1_0 := Nat.le_of_lt hz1_0; have hA1 := bnext (w0 := w) bgo hb1; have hs1 := hA1.size; clear hb1)
    | (go_at_call 104; refine (c103 _ (nt_at hk (by assumption) (by go_simp) (by go_simp) (by go_simp) (by go_simp))).mono ?_; rintro r w2 ⟨rfl, hb2⟩; obtain ⟨hc2, hf2⟩ := bcell hb2; have hz2_0 : w.heap.size < w2.heap.size := lt_below hb2 ltg; have hl2_0 := Nat.le_of_lt hz2_0; have hA2 := bnext (w0 := w) bgo hb2; have hs2 := hA2.size; clear hb2))
  go_ret
  exact ⟨by rw [HU.out]; rfl, bgo⟩
end
theorem nan_v (c : Int) (s g : Bool) (x : Int) (k : Nat) (w : World) (hk : k < 2 ^ 256) : Calls Tryz.prog 71 #[DV c s g x k] w fun r w' => r = .returned (.string (B (nanT g (dcL k)))) ∧ Below w.heap.size w w' := by
  have c23 := fun W => none_v c s g x k W hk
  by_cases h0 : k = 0
  · rw [decide_eq_true h0] at c23
    rw [show dcL k = [] from if_pos h0]
    exact nan_z c s x k w g c23
  · rw [decide_eq_false h0] at c23
    obtain ⟨f1, f2, f3⟩ := dcL_facts hk
    have hne : dcL k ≠ [] := fun e => by rw [e, dV_nil] at f2; omega
    cases g
    · exact nan_f c s x k w (dcL k) hk hne f3 (fun W h => ndig_v (by decide) hk h0 h) c23
    · exact nan_t c s x k w (dcL k) hk hne f3 (fun W h => ndig_v (by decide) hk h0 h) c23
end Go.Proofs.YtoobncgmcnmgjaaGreatDoor

namespace Go.Proofs.YtoobncgmcnmgjaaGreatDoor
open Go.RowKit

attribute [local irreducible] W4
section
variable (n : Int) (s g : Bool) (x : Int) (k : Nat) (w : World)
set_option maxHeartbeats 2000000 in
theorem uns_i : Calls Tryz.prog 39 #[.int .i64 n, DV 2 s g x k] w fun r w' => r = .returned (.string (B [105, 110, 102])) ∧ Below w.heap.size w w' := by
  have e : B [105, 110, 102] = ⟨#[105, 110, 102]⟩ := rfl
  rw [e]
  unfold DV
  go_enter Tryz.func39, Tryz.ntmps39
  go_wp2
  go_ret
  exact ⟨rfl, bgo⟩
set_option maxHeartbeats 2000000 in
theorem uns_n (T : List UInt8) (c71 : ∀ W, Calls Tryz.prog 71 #[DV 3 s g x k] W fun r w' => r = .returned (.string (B T)) ∧ Below W.heap.size W w') :
    Calls Tryz.prog 39 #[.int .i64 n, DV 3 s g x k] w fun r w' => r = .returned (.string (B T)) ∧ Below w.heap.size w w' := by
  have hsm := cell_set_map
  unfold DV at *
  go_enter Tryz.func39, Tryz.ntmps39
  go_wp2_with (go_at_call 71; refine (c71 _).mono ?_; rintro r w1 ⟨rfl, hb1⟩; obtain ⟨hc1, hf1⟩ := bcell hb1; have hz1_0 : w.heap.size < w1.heap.size := lt_below hb1 ltg; have hl1_0 := Nat.le_of_lt hz1_0; have hA1 := bnext (w0 := w) bgo hb1; have hs1 := hA1.size; clear hb1)
  go_ret
  exact ⟨rfl, bgo⟩
set_option maxHeartbeats 2000000 in
theorem uns_0 (c23 : ∀ W, Calls Tryz.prog 23 #[DV 1 s g x k] W fun r w' => r = .returned (.bool true) ∧ Below W.heap.size W w') :
    Calls Tryz.prog 39 #[.int .i64 n, DV 1 s g x k] w fun r w' => r = .returned (.string (B [48, 101, 48])) ∧ Below w.heap.size w w' := by
  have e : B [48, 101, 48] = ⟨#[48, 101, 48]⟩ := rfl
  rw [e]
  have hsm := cell_set_map
  unfold DV at *
  go_enter Tryz.func39, Tryz.ntmps39
  go_wp2_with (go_at_call 23; refine (c23 _).mono ?_; rintro r w1 ⟨rfl, hb1⟩; obtain ⟨hc1, hf1⟩ := bcell hb1; have hz1_0 : w.heap.size < w1.heap.size := lt_below hb1 ltg; have hl1_0 := Nat.le_of_lt hz1_0; have hA1 := bnext (w0 := w) bgo hb1; have hs1 := hA1.size; clear hb1)
  go_ret
  exact ⟨rfl, bgo⟩
end
section
variable (n : Int) (Bp : Nat) (c : Int) (s g : Bool) (x : Int) (k : Nat) (w : World) (hT10 : Tb10 w)
variable (c16 : ∀ W, Calls Tryz.prog 16 #[.int .i64 n, A4 Bp] W fun r w' => r = .returned (.tuple #[DV c s g x k, .int .i64 0]) ∧ Below W.heap.size W w')
include hT10 c16
variable (hc : c = 1)
include hc
end
/-- a pattern's text, the program's -/
theorem write_of {n : Int} {V : Nat} {w : World} (hT : Tab w) (hT10 : Tb10 w) (T : List UInt8) (hl : T.length ≤ 100000) (hV : V < 2 ^ 256) (hg : goodN n V)
    (c39 : ∀ W, Tab W → Tb10 W → Calls Tryz.prog 39 #[.int .i64 n, (unD n V).v] W fun r w' => r = .returned (.string (B T)) ∧ Below W.heap.size W w') :
    Calls Tryz.prog 12 #[.int .i64 n, A4 V] w fun r w' => r = .returned (.tuple #[.string (B (sgL (unD n V).s ++ T)), .int .i64 0]) ∧ Below w.heap.size w w' := by
  have c22 := fun W (hW : Tab W) => unpack_any n V W hW hV
  rw [show unE n V = 0 from if_pos hg] at c22
  cases hs : (unD n V).s
  · exact wr_p n V (unD n V).c (unD n V).s (unD n V).g (unD n V).x (unD n V).k w hT hT10 T hs c22 c39
  · exact wr_m n V (unD n V).c (unD n V).s (unD n V).g (unD n V).x (unD n V).k w hT hT10 T hl hs c22 c39
/-- the text of a pattern -/
def wrT (n : Int) (V : Nat) (E : Int) (K : Nat) : List UInt8 :=
  if (unD n V).c = 2 then [105, 110, 102] else if (unD n V).c = 3 then nanT (unD n V).g (dcL (unD n V).k)
  else if (unD n V).k = 0 then [48, 101, 48] else unT (sdT n (unD n V).x (unD n V).k E K) (E + (sdC n (unD n V).x (unD n V).k E K : Nat))
theorem unT_len {D : List UInt8} {e : Int} (hD : D.length ≤ 1000) (he : -100000 ≤ e ∧ e ≤ 100000) : (unT D e).length ≤ 3000 := by
  have := itoa_short he
  unfold unT
  rw [List.length_append, List.length_append, List.length_append, List.length_take]
  split
  · simp; omega
  · simp; omega
theorem nanT_len {g : Bool} {d : List UInt8} (h : d.length ≤ 660) : (nanT g d).length ≤ 3000 := by
  unfold nanT
  rw [List.length_append, List.length_append]
  split <;> split <;> simp <;> omega
theorem shd_any (n : Int) (V : Nat) : ∃ E K, goodN n V → (unD n V).c = 1 → (unD n V).k ≠ 0 → Shd n (unD n V).x (unD n V).k E K := by
  by_cases h : finP n V
  · obtain ⟨hb, hkb, hx1, hx2, _⟩ := fin_facts h
    obtain ⟨E, K, hS⟩ := Shd.ex (n := n) hkb h.2.2 ⟨hx1, hx2⟩
    exact ⟨E, K, fun _ _ _ => hS⟩
  · exact ⟨0, 0, fun h1 h2 h3 => absurd ⟨h1, h2, h3⟩ h⟩
end Go.Proofs.YtoobncgmcnmgjaaGreatDoor

namespace Go.Proofs.YtoobncgmcnmgjaaGreatDoor
open Go.RowKit

/-- an exponent that is always written -/
theorem ex_any (e : Int) (h : -1000000000 ≤ e ∧ e ≤ 1000000000) : exB (101 :: Lib.itoa e) = true ∧ exI (101 :: Lib.itoa e) = e ∧ Lib.hasPrefix (101 :: Lib.itoa e) [46] = false ∧ dgs (101 :: Lib.itoa e) = [] ∧ rst (101 :: Lib.itoa e) = 101 :: Lib.itoa e := by
  by_cases h0 : e = 0
  · subst h0
    have e0 : Lib.itoa 0 = [48] := by kernel_rfl
    rw [e0]
    exact ⟨by decide, by decide, by decide, by decide, by decide⟩
  · have := exT_cut e h
    unfold exT at this
    rw [if_neg h0] at this
    exact this
theorem clamp_id {e : Int} (h : -1000000000 ≤ e ∧ e ≤ 1000000000) : clampE e = e := by unfold clampE; omega
/-- the text of digits with an exponent -/
theorem un_cut (s : Bool) {c : UInt8} {r : List UInt8} {e : Int} (hc : dg c = true) (hc0 : (c.toNat : Int) ≠ 48) (hr : r.all dg = true) (hl : r.length ≤ 3950) (he : -100000 ≤ e ∧ e ≤ 100000) :
    cutP (sgL s ++ unT (c :: r) e) = some ⟨1, s, false, c :: r, e - r.length⟩ := by
  have hlen : (unT (c :: r) e).length ≤ r.length + 26 := by have := unT_brief (D := c :: r) he; rw [List.length_cons] at this; omega
  obtain ⟨x1, x2, x3, x4, x5⟩ := ex_any e (by omega)
  have hcn := dg_nat hc
  have hall : [c].all dg = true := by simp [hc]
  have hbar : bar (c :: r) = c :: r := by rw [bar_cons, if_neg hc0]
  have key : finB (unT (c :: r) e) = true ∧ finD (unT (c :: r) e) = c :: r ∧ finE (unT (c :: r) e) = e - r.length ∧ ∃ t, unT (c :: r) e = c :: t := by
    cases hr0 : r with
    | nil =>
      have hu : unT [c] e = [c] ++ (101 :: Lib.itoa e) := rfl
      rw [hu]
      obtain ⟨d1, d2⟩ := dgs_app2 (m := 101 :: Lib.itoa e) hall x4
      have f1 : frac ([c] ++ 101 :: Lib.itoa e) = [] := by unfold frac; rw [d2, x3]; rfl
      have f2 : behind ([c] ++ 101 :: Lib.itoa e) = 101 :: Lib.itoa e := by unfold behind; rw [d2, x3]; rfl
      refine ⟨?_, ?_, ?_, _, rfl⟩
      · unfold finB; rw [f1, f2, x1, d1]; rfl
      · unfold finD; rw [f1, d1]
        rw [hr0] at hbar
        exact hbar
      · unfold finE; rw [f1, f2, x2]
        exact clamp_id (by simp; omega)
    | cons a t =>
      rw [← hr0]
      have hu : unT (c :: r) e = [c] ++ 46 :: (r ++ (101 :: Lib.itoa e)) := by
        unfold unT
        rw [hr0]
        simp
      rw [hu]
      obtain ⟨d1, d2⟩ := dgs_app2 (m := 46 :: (r ++ (101 :: Lib.itoa e))) hall rfl
      obtain ⟨d3, d4⟩ := dgs_app2 (m := 101 :: Lib.itoa e) hr x4
      have e1 : Lib.hasPrefix (46 :: (r ++ (101 :: Lib.itoa e))) [46] = true := rfl
      have e2 : Lib.trimPrefix (46 :: (r ++ (101 :: Lib.itoa e))) [46] = r ++ (101 :: Lib.itoa e) := rfl
      have f1 : frac ([c] ++ 46 :: (r ++ (101 :: Lib.itoa e))) = r := by unfold frac; rw [d2, e1, e2, d3]; rfl
      have f2 : behind ([c] ++ 46 :: (r ++ (101 :: Lib.itoa e))) = 101 :: Lib.itoa e := by unfold behind; rw [d2, e1, e2, d4]; rfl
      refine ⟨?_, ?_, ?_, _, rfl⟩
      · unfold finB; rw [f1, f2, x1, d1]; rfl
      · unfold finD; rw [f1, d1]
        exact hbar
      · unfold finE; rw [f1, f2, x2]
        exact clamp_id (by omega)
  obtain ⟨k1, k2, k3, t, k4⟩ := key
  unfold cutP
  have hs : (sgL s ++ unT (c :: r) e).length ≤ 4000 := by
    rw [List.length_append]
    have : (sgL s).length ≤ 1 := by cases s <;> decide
    omega
  rw [if_neg (by omega)]
  have hsg : gsgB (sgL s ++ unT (c :: r) e) = s ∧ sgR (sgL s ++ unT (c :: r) e) = unT (c :: r) e := by
    rw [k4]
    exact sig_app s c t ⟨by omega, by omega⟩
  rw [hsg.1, hsg.2]
  unfold bodP
  rw [if_pos k1, k2, k3]
theorem sd_cons {n x : Int} {k : Nat} {E : Int} {K : Nat} (hS : Shd n x k E K) : ∃ c r, sdT n x k E K = c :: r ∧ dg c = true ∧ (c.toNat : Int) ≠ 48 ∧ r.all dg = true := by
  have hZ := zE_pos x E
  have hZR : zE x E ≤ 4 * k * oE x E := hS.t0
  have hR : 4 * k * oE x E < 10 * zE x E := by
    have := hS.t1
    rw [tn_next] at this
    omega
  unfold sdT shT
  by_cases h10 : laK (evK k) (4 * k * oE x E) (lwN n x k * oE x E) (2 * oE x E) (zE x E) K = 10
  · rw [if_pos h10]
    exact ⟨49, [], rfl, by decide, by decide, rfl⟩
  · rw [if_neg h10]
    have hl9 : laK (evK k) (4 * k * oE x E) (lwN n x k * oE x E) (2 * oE x E) (zE x E) K ≤ 9 := by
      have := laK_le (c := evK k) (d := lwN n x k * oE x E) (u := 2 * oE x E) hZ hR K
      omega
    have hl1 := la_pos (c := evK k) (d := lwN n x k * oE x E) (u := 2 * oE x E) hZ hZR hS.st hS.mn
    have h9 := dgK_le hZ hR 0
    have h1 := dg0_pos hZ hZR
    cases K with
    | zero =>
      refine ⟨_, [], rfl, dg_ofNat hl9, ?_, rfl⟩
      rw [ofNat_dg hl9]; omega
    | succ K =>
      have ha := ds_all hZ hR (K + 1)
      obtain ⟨r, hr⟩ := ds_first hZ hR hZR K
      rw [hr] at ha ⊢
      rw [List.all_cons, Bool.and_eq_true] at ha
      refine ⟨_, r ++ _, rfl, ha.1, ?_, ?_⟩
      · rw [ofNat_dg h9]; omega
      · rw [List.all_append, ha.2, Bool.true_and, List.all_cons, dg_ofNat hl9]; rfl
/-- the first digit's place is not far -/
theorem tn_far {k : Nat} {x E : Int} (hk : k < 2 ^ 256) (hx : x ≤ 16990) (h : tnP k x E) : E ≤ 5191 := by
  apply Classical.byContradiction
  intro hE
  have hE : 5192 ≤ E := by omega
  unfold tnP zE oE at h
  have e1 : (-E).toNat = 0 := by omega
  rw [e1, Nat.pow_zero, Nat.mul_one] at h
  obtain ⟨t, ht⟩ : ∃ t : Nat, t = 5192 := ⟨_, rfl⟩
  obtain ⟨a, ha⟩ : ∃ a : Nat, a = 16990 := ⟨_, rfl⟩
  have h1 : 10 ^ t ≤ 10 ^ E.toNat := Nat.pow_le_pow_right (by decide) (by omega)
  have h2 : 2 ^ x.toNat ≤ 2 ^ a := Nat.pow_le_pow_right (by decide) (by omega)
  have h3 : 1 ≤ 2 ^ (-x).toNat := Nat.two_pow_pos _
  have h4 : 2 ^ 256 * 2 ^ a ≤ 10 ^ t := by
    rw [← Nat.pow_add]
    exact two_le_ten (by omega)
  have h5 : k * 2 ^ x.toNat < 2 ^ 256 * 2 ^ a := Nat.lt_of_lt_of_le (Nat.mul_lt_mul_of_pos_right hk (Nat.two_pow_pos _)) (Nat.mul_le_mul_left _ h2)
  have h6 : 1 * 10 ^ E.toNat ≤ 2 ^ (-x).toNat * 10 ^ E.toNat := Nat.mul_le_mul_right _ h3
  rw [Nat.mul_assoc, Nat.mul_assoc] at h
  have h7 := Nat.le_of_mul_le_mul_left h (by decide : 0 < 4)
  rw [Nat.one_mul] at h6
  exact absurd (Nat.lt_of_le_of_lt (Nat.le_trans h1 (Nat.le_trans h6 h7)) (Nat.lt_of_lt_of_le h5 h4)) (Nat.lt_irrefl _)
theorem pay_id {f k : Nat} {g : Bool} (hf : 1 ≤ f) (hk : k < 2 ^ (f - 1)) (hg : k ≠ 0 ∨ g = false) : plV f g k = k := by
  have hbl : bl k ≤ f - 1 := bl_le.2 hk
  have e : plA f k = k := by unfold plA; rw [if_neg (by omega)]
  unfold plV
  rw [e]
  split
  · rename_i h
    rcases hg with h2 | h2
    · exact absurd h.2 h2
    · rw [h2] at h; exact absurd h.1 (by decide)
  · rfl
/-- what was written reads back as the pattern -/
theorem wr_back {n : Int} {V : Nat} {E : Int} {K : Nat} (hg : goodN n V) (hS : (unD n V).c = 1 → (unD n V).k ≠ 0 → Shd n (unD n V).x (unD n V).k E K) :
    ∃ p, cutP (sgL (unD n V).s ++ wrT n V E K) = some p ∧ mkV n 0 p = V ∧ (mkF n 0 p = 0 ∨ mkF n 0 p = 8 ∨ mkF n 0 p = 12) := by
  have hV := (back_un hg).2
  have hb := hg.1
  have hkk := unD_k n V
  have hD := un_isD hg
  have hf1 : 1 ≤ fN n := by
    rcases bin_cases hb with h | h | h | h | h | h <;> rw [h] <;> decide
  unfold wrT
  generalize hd : unD n V = d at *
  obtain ⟨c, s, g, x, k⟩ := d
  dsimp only at *
  rcases hD with ⟨h1, h2, h3, h4, h5, h6⟩ | ⟨h1, h2, h3, h4⟩ | ⟨h1, h2, h3, h4⟩
  · dsimp only at h1 h2 h3 h4 h5 h6
    subst h1 h2
    rw [if_neg (by decide), if_neg (by decide)]
    by_cases h0 : k = 0
    · rw [if_pos h0]
      have hx : x = leastN n := by
        rcases h6 with h | h
        · have := Nat.two_pow_pos (fN n); omega
        · exact h
      refine ⟨⟨1, s, false, [], 0⟩, by cases s <;> kernel_rfl, ?_, ?_⟩
      · unfold mkV
        rw [if_pos rfl]
        have : tN (dV []) (pwE ([] : List UInt8).length 0) = 0 := by rw [dV_nil]; unfold tN; rw [Nat.zero_mul]
        dsimp only at this ⊢
        rw [this]
        unfold rdV
        rw [if_pos rfl, ← hx, ← h0]
        exact hV
      · left
        unfold mkF
        rw [if_pos rfl]
        have : tN (dV []) (pwE ([] : List UInt8).length 0) = 0 := by rw [dV_nil]; unfold tN; rw [Nat.zero_mul]
        dsimp only at this ⊢
        rw [this]
        unfold rdF
        rw [if_pos rfl]
    · rw [if_neg h0]
      have hS' := hS rfl h0
      obtain ⟨hx1, hx2⟩ := bin_x hb h4 h5
      obtain ⟨b1, b2, b3⟩ := hS'.bd hkk h0 ⟨hx1, hx2⟩
      have hl := sd_len hkk h0 hS'
      have hfar := tn_far hkk hx2 hS'.t0
      have hc1 : sdC n x k E K ≤ 1 := by unfold sdC shC; split <;> omega
      obtain ⟨c, r, hT, hc, hc0, hr⟩ := sd_cons hS'
      have hrl : r.length = K := by
        rw [hT, List.length_cons] at hl; omega
      have hback := sd_back (s := s) hb (Or.inl ⟨rfl, rfl, h3, h4, h5, h6⟩) h0 hS' _ rfl
      refine ⟨⟨1, s, false, c :: r, E + (sdC n x k E K : Nat) - r.length⟩, ?_, ?_⟩
      · rw [hT]
        exact un_cut s hc hc0 hr (by omega) (by omega)
      · have hp : pwE (c :: r).length (E + (sdC n x k E K : Nat) - r.length) = E - K + (sdC n x k E K : Nat) := by
          unfold pwE
          rw [List.length_cons, hrl]
          omega
        unfold mkV mkF
        rw [if_pos rfl, if_pos rfl]
        dsimp only
        rw [hp, ← hT]
        rw [hV] at hback
        exact hback
  · dsimp only at h1 h2 h3 h4
    subst h1 h2 h3 h4
    rw [if_pos rfl]
    refine ⟨⟨2, s, false, [], 0⟩, by cases s <;> kernel_rfl, ?_, Or.inl rfl⟩
    unfold mkV
    rw [if_neg (show ¬ (2 : Int) = 1 by decide), if_pos rfl]
    exact hV
  · dsimp only at h1 h2 h3 h4
    subst h1 h2
    rw [if_neg (by decide), if_pos rfl]
    obtain ⟨f1, f2, f3⟩ := dcL_facts hkk
    have hlen : (texT 3 s g (dcL k) 0).length ≤ 4000 := by
      have := tex_len2 (c := 3) (s := s) (g := g) (d := dcL k) (e := 0) (by decide)
      omega
    have hj := (jn_of_gd (p := ⟨3, s, g, dcL k, 0⟩) ⟨f1, Or.inr (Or.inr ⟨rfl, rfl, hlen⟩)⟩).2
    have e : texT 3 s g (dcL k) 0 = sgL s ++ nanT g (dcL k) := by unfold texT bodT sgL; rw [if_neg (show ¬ (3 : Int) = 2 by decide), if_pos rfl]
    refine ⟨⟨3, s, g, dcL k, 0⟩, ?_, ?_, Or.inl rfl⟩
    · rw [← e]; exact hj
    · unfold mkV
      rw [if_neg (show ¬ (3 : Int) = 1 by decide), if_neg (show ¬ (3 : Int) = 2 by decide)]
      dsimp only
      rw [f2, pay_id hf1 h3 h4]
      exact hV
end Go.Proofs.YtoobncgmcnmgjaaGreatDoor

namespace Go.Proofs.YtoobncgmcnmgjaaGreatDoor
open Go.RowKit

attribute [local irreducible] W4
section
variable (n : Int) (V : Nat) (c : Int) (s g : Bool) (x : Int) (k : Nat) (w : World) (hT : Tab w) (hT10 : Tb10 w)
variable (c9 : ∀ W, Below w.heap.size w W → Calls Tryz.prog 9 #[] W fun r w' => r = .returned (.bool true) ∧ Below W.heap.size W w')
include c9
variable (P M : Nat) (e1 e2 : Int) (T : List UInt8) (hl : T.length ≤ 100000)
  (c16 : ∀ W, Calls Tryz.prog 16 #[.int .i64 n, A4 V] W fun r w' => r = .returned (.tuple #[DV c s g x k, .int .i64 0]) ∧ Below W.heap.size W w')
  (c21p : ∀ W, Calls Tryz.prog 21 #[.int .i64 n, DV c false g x k] W fun r w' => r = .returned (.tuple #[A4 P, .int .i64 e1]) ∧ Below W.heap.size W w')
  (c21m : ∀ W, Calls Tryz.prog 21 #[.int .i64 n, DV c true g x k] W fun r w' => r = .returned (.tuple #[A4 M, .int .i64 e2]) ∧ Below W.heap.size W w')
  (c12p : ∀ W, Tab W → Tb10 W → Calls Tryz.prog 12 #[.int .i64 n, A4 P] W fun r w' => r = .returned (.tuple #[.string (B T), .int .i64 0]) ∧ Below W.heap.size W w')
  (c12m : ∀ W, Tab W → Tb10 W → Calls Tryz.prog 12 #[.int .i64 n, A4 M] W fun r w' => r = .returned (.tuple #[.string (B ([45] ++ T)), .int .i64 0]) ∧ Below W.heap.size W w')
include hT hT10 hl c16 c21p c21m c12p c12m
end
theorem wrT_len {n : Int} {V : Nat} {E : Int} {K : Nat} (hg : goodN n V) (hS : (unD n V).c = 1 → (unD n V).k ≠ 0 → Shd n (unD n V).x (unD n V).k E K) : (wrT n V E K).length ≤ 3000 := by
  unfold wrT
  have hkk := unD_k n V
  by_cases h2 : (unD n V).c = 2
  · rw [if_pos h2]; decide
  · rw [if_neg h2]
    by_cases h3 : (unD n V).c = 3
    · rw [if_pos h3]
      obtain ⟨_, _, f3⟩ := dcL_facts hkk
      exact nanT_len f3
    · rw [if_neg h3]
      by_cases h0 : (unD n V).k = 0
      · rw [if_pos h0]; decide
      · rw [if_neg h0]
        have h1 : (unD n V).c = 1 := by
          rcases un_isD hg with ⟨e1, _⟩ | ⟨e1, _⟩ | ⟨e1, _⟩
          · exact e1
          · exact absurd e1 h2
          · exact absurd e1 h3
        obtain ⟨hb, hkb, hx1, hx2, _⟩ := fin_facts ⟨hg, h1, h0⟩
        have hS' := hS h1 h0
        obtain ⟨b1, b2, b3⟩ := hS'.bd hkb h0 ⟨hx1, hx2⟩
        have hl := sd_len hkb h0 hS'
        have hc1 : sdC n (unD n V).x (unD n V).k E K ≤ 1 := by unfold sdC shC; split <;> omega
        exact unT_len (by omega) (by omega)
end Go.Proofs.YtoobncgmcnmgjaaGreatDoor

namespace Go.Proofs.YtoobncgmcnmgjaaGreatDoor
open Go.RowKit

attribute [local irreducible] W4
/-- Write, of a pattern that is the format's -/
theorem write1_of {n : Int} {V : Nat} {E : Int} {K : Nat} (hg : goodN n V) (hV : V < 2 ^ 256) (hS : (unD n V).c = 1 → (unD n V).k ≠ 0 → Shd n (unD n V).x (unD n V).k E K) (w : World) (hT : Tab w) (hT10 : Tb10 w) :
    Calls Tryz.prog 12 #[.int .i64 n, A4 V] w fun r w' => r = .returned (.tuple #[.string (B (sgL (unD n V).s ++ wrT n V E K)), .int .i64 0]) ∧ Below w.heap.size w w' := by
  have hkk := unD_k n V
  have hD := un_isD hg
  unfold wrT
  by_cases h2 : (unD n V).c = 2
  · rw [if_pos h2]
    refine write_of hT hT10 _ (by decide) hV hg fun W _ _ => ?_
    unfold Dat.v
    rw [h2]
    exact uns_i n (unD n V).s (unD n V).g (unD n V).x (unD n V).k W
  · rw [if_neg h2]
    by_cases h3 : (unD n V).c = 3
    · rw [if_pos h3]
      obtain ⟨_, _, f3⟩ := dcL_facts hkk
      refine write_of hT hT10 _ (Nat.le_trans (nanT_len f3) (by decide)) hV hg fun W _ _ => ?_
      unfold Dat.v
      rw [h3]
      exact uns_n n (unD n V).s (unD n V).g (unD n V).x (unD n V).k W _ fun W => nan_v 3 (unD n V).s (unD n V).g (unD n V).x (unD n V).k W hkk
    · rw [if_neg h3]
      have h1 : (unD n V).c = 1 := by
        rcases hD with ⟨e1, _⟩ | ⟨e1, _⟩ | ⟨e1, _⟩
        · exact e1
        · exact absurd e1 h2
        · exact absurd e1 h3
      by_cases h0 : (unD n V).k = 0
      · rw [if_pos h0]
        refine write_of hT hT10 _ (by decide) hV hg fun W _ _ => ?_
        unfold Dat.v
        rw [h1]
        refine uns_0 n (unD n V).s (unD n V).g (unD n V).x (unD n V).k W fun W => ?_
        have := none_v 1 (unD n V).s (unD n V).g (unD n V).x (unD n V).k W hkk
        rw [decide_eq_true h0] at this
        exact this
      · rw [if_neg h0]
        have hf : finP n V := ⟨hg, h1, h0⟩
        obtain ⟨hb, hkb, hx1, hx2, _⟩ := fin_facts hf
        have hS' := hS h1 h0
        obtain ⟨b1, b2, b3⟩ := hS'.bd hkb h0 ⟨hx1, hx2⟩
        have hl := sd_len hkb h0 hS'
        have hc1 : sdC n (unD n V).x (unD n V).k E K ≤ 1 := by unfold sdC shC; split <;> omega
        refine write_of hT hT10 _ (Nat.le_trans (unT_len (by omega) (by omega)) (by decide)) hV hg fun W hW hW10 => ?_
        unfold Dat.v
        rw [h1]
        have c23 : ∀ W, Calls Tryz.prog 23 #[DV 1 (unD n V).s (unD n V).g (unD n V).x (unD n V).k] W fun r w' => r = .returned (.bool false) ∧ Below W.heap.size W w' := fun W => by
          have := none_v 1 (unD n V).s (unD n V).g (unD n V).x (unD n V).k W hkk
          rw [decide_eq_false h0] at this
          exact this
        have c24 := fun W (hW : Tab W) => digitsOf_v (n := n) 1 (unD n V).s (unD n V).g W hW hb hkb h0 ⟨hx1, hx2⟩ hS'
        by_cases hK : K = 0
        · exact uns_1 n (unD n V).s (unD n V).g (unD n V).x (unD n V).k _ _ W hW hW10 (by omega) c23 c24 (by rw [hl, hK])
        · exact uns_m n (unD n V).s (unD n V).g (unD n V).x (unD n V).k _ _ W hW hW10 (by omega) c23 c24 (by omega) (by omega)
end Go.Proofs.YtoobncgmcnmgjaaGreatDoor
