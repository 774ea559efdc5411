/-
  Texts that the proof leans on, joined: Mg, Str, Apn, Gv, Mh, Mi.
-/
import Derived.Test.YtplocajjfoiklaaGreatDoorR20
import Derived.Test.YtplocajjfoiklaaGreatDoorR25
import Derived.Test.YtplocajjfoiklaaGreatDoorR21
import Derived.Test.YtplocajjfoiklaaGreatDoorR6
import Derived.Lib.ItoaLen
import Derived.Test.YtplocajjfoiklaaGreatDoorR1
import Derived.Test.YtplocajjfoiklaaGreatDoorR14
import Derived.Test.YtplocajjfoiklaaGreatDoorR11
import Derived.Test.YtplocajjfoiklaaGreatDoorR10
set_option maxHeartbeats 8000000
set_option linter.unusedVariables false
set_option linter.unusedSectionVars false
set_option linter.unusedSimpArgs false
set_option maxRecDepth 20000
namespace Go.Proofs.YtplocajjfoiklaaGreatDoor
open Go.RowKit
theorem xB_tl (y : UInt8) (z : List UInt8) : (B (y :: z)).extract 1 (z.length + 1) = B z := by
 have := B_tail y z
 rw [B_size, List.length_cons] at this
 exact this
theorem xIDX0 (y : UInt8) (z : List UInt8) : ∀ h : 0 < (B (y :: z)).size, (((B (y :: z))[0]'h).toNat : Int) = ((y.toNat : Nat) : Int) := IDX_get (l := y :: z) (i := 0) rfl
theorem xIDX1 (x y : UInt8) (z : List UInt8) : ∀ h : 1 < (B (x :: y :: z)).size, (((B (x :: y :: z))[1]'h).toNat : Int) = ((y.toNat : Nat) : Int) := IDX_get (l := x :: y :: z) (i := 1) rfl
theorem u8_ne {y u : UInt8} (c : Int) (hu : ((u.toNat : Nat) : Int) = c) (h : ¬ y = u) : ((((y.toNat : Nat) : Int)) == c) = false ∧ ((((y.toNat : Nat) : Int)) != c) = true ∧ ¬ ((y.toNat : Nat) : Int) = c := by
 have hn : ¬ ((y.toNat : Nat) : Int) = c := fun e => h (UInt8.toNat_inj.1 (by omega))
 exact ⟨beq_eq_false_iff_ne.2 hn, by simp only [bne_iff_ne, ne_eq]; exact hn, hn⟩
section
theorem xsign_any (l : List UInt8) (w : World) (hs : l.length ≤ 10000) : Calls Tryz.prog 70 #[.string (B l)] w fun e w' => e = .returned (.tuple #[.bool (gsgB l), .string (B (sgR l))]) ∧ Below w.heap.size w w' := by
 have htl := B_toList
 cases l with
 | nil =>
  have hsz : (B []).size = 0 := rfl
  go_enter Tryz.func70, Tryz.ntmps70
  go_wp2
  go_ret2
  exact ⟨rfl, Below.refl _ _⟩
 | cons c r =>
  have hsz : (B (c :: r)).size = r.length + 1 := B_size _
  have hbt := xB_tl c r
  have hsb := xIDX0 c r
  have hcb := c.toNat_lt
  rw [List.length_cons] at hs
  have hri : (r.length : Int) ≤ 10000 := by omega
  by_cases h45 : (c.toNat : Int) = 45
  ·have e1 : gsgB (c :: r) = true := decide_eq_true h45
   have e2 : sgR (c :: r) = r := if_pos (Or.inl h45)
   rw [e1, e2]
   go_enter Tryz.func70, Tryz.ntmps70
   go_wp2
   go_quiet (fail)
   go_wp2
   go_ret2
   exact ⟨rfl, gbelow_drewN (Below.refl _ _)⟩
  ·by_cases h43 : (c.toNat : Int) = 43
   ·have e1 : gsgB (c :: r) = false := decide_eq_false h45
    have e2 : sgR (c :: r) = r := if_pos (Or.inr h43)
    rw [e1, e2]
    go_enter Tryz.func70, Tryz.ntmps70
    go_wp2
    go_quiet (fail)
    go_wp2
    go_ret2
    exact ⟨rfl, gbelow_drewN (Below.refl _ _)⟩
   ·have e1 : gsgB (c :: r) = false := decide_eq_false h45
    have e2 : sgR (c :: r) = c :: r := if_neg (fun h => h.elim h45 h43)
    have n45 : ((c.toNat : Int) == 45) = false := by rw [beq_eq_false_iff_ne]; exact h45
    have n43 : ((c.toNat : Int) == 43) = false := by rw [beq_eq_false_iff_ne]; exact h43
    rw [e1, e2]
    go_enter Tryz.func70, Tryz.ntmps70
    go_wp2
    go_ret2
    exact ⟨rfl, Below.refl _ _⟩
def xmkB : List UInt8 → Bool
 | c :: y :: _ => decide (c = 48) && decide (y = 120 ∨ y = 88)
 | _ => false
def xmkR : List UInt8 → List UInt8
 | c :: y :: z => if xmkB (c :: y :: z) then z else c :: y :: z
 | l => l
theorem xmark_any (l : List UInt8) (w : World) (hs : l.length ≤ 10000) : Calls Tryz.prog 71 #[.string (B l)] w fun e w' => e = .returned (.tuple #[.string (B (xmkR l)), .bool (xmkB l)]) ∧ Below w.heap.size w w' := by
 have htl := B_toList
 match l, hs with
 | [], _ =>
  have hsz : (B []).size = 0 := rfl
  go_enter Tryz.func71, Tryz.ntmps71
  go_wp2
  go_ret2
  exact ⟨rfl, Below.refl _ _⟩
 | [c], _ =>
  have hsz : (B [c]).size = 1 := rfl
  go_enter Tryz.func71, Tryz.ntmps71
  go_wp2
  go_ret2
  exact ⟨rfl, Below.refl _ _⟩
 | c :: y :: z, hs =>
  have hsz : (B (c :: y :: z)).size = z.length + 2 := B_size _
  have hbt : (B (c :: y :: z)).extract 2 (z.length + 2) = B z := by
   have := B_drop (c :: y :: z) 2
   rw [hsz] at this
   exact this
  have hsb := xIDX0 c (y :: z)
  have hsb1 := xIDX1 c y z
  have hcb := c.toNat_lt
  have hyb := y.toNat_lt
  rw [List.length_cons, List.length_cons] at hs
  have hri : (z.length : Int) ≤ 10000 := by omega
  by_cases h48 : c = 48
  ·have n48 : (c.toNat : Int) = 48 := by rw [h48]; rfl
   by_cases h120 : y = 120
   ·have n120 : (y.toNat : Int) = 120 := by rw [h120]; rfl
    have e1 : xmkB (c :: y :: z) = true := by unfold xmkB; simp [h48, h120]
    have e2 : xmkR (c :: y :: z) = z := if_pos e1
    rw [e1, e2]
    clear h48 h120 e1 e2
    go_enter Tryz.func71, Tryz.ntmps71
    go_wp2
    go_ret2
    exact ⟨rfl, Below.refl _ _⟩
   ·obtain ⟨n120, b120, m120⟩ := u8_ne 120 rfl h120
    by_cases h88 : y = 88
    ·have n88 : (y.toNat : Int) = 88 := by rw [h88]; rfl
     have e1 : xmkB (c :: y :: z) = true := by unfold xmkB; simp [h48, h88]
     have e2 : xmkR (c :: y :: z) = z := if_pos e1
     rw [e1, e2]
     clear h48 h120 h88 e1 e2
     go_enter Tryz.func71, Tryz.ntmps71
     go_wp2
     go_ret2
     exact ⟨rfl, Below.refl _ _⟩
    ·obtain ⟨n88, b88, m88⟩ := u8_ne 88 rfl h88
     have e1 : xmkB (c :: y :: z) = false := by unfold xmkB; simp [h120, h88]
     have e2 : xmkR (c :: y :: z) = c :: y :: z := if_neg (by rw [e1]; decide)
     rw [e1, e2]
     clear h48 h120 h88 e1 e2
     go_enter Tryz.func71, Tryz.ntmps71
     go_wp2
     go_ret2
     exact ⟨rfl, Below.refl _ _⟩
  ·obtain ⟨n48, b48, m48⟩ := u8_ne 48 rfl h48
   have e1 : xmkB (c :: y :: z) = false := by unfold xmkB; simp [h48]
   have e2 : xmkR (c :: y :: z) = c :: y :: z := if_neg (by rw [e1]; decide)
   rw [e1, e2]
   clear h48 e1 e2
   go_enter Tryz.func71, Tryz.ntmps71
   go_wp2
   go_ret2
   exact ⟨rfl, Below.refl _ _⟩
theorem xdig_any (l : List UInt8) (w : World) (hs : l.length ≤ 10000) : Calls Tryz.prog 72 #[.string (B l)] w fun e w' => e = .returned (.tuple #[.string (B (l.takeWhile hxc)), .string (B (l.dropWhile hxc))]) ∧ Below w.heap.size w w' := by
 have c := fun W => trimx_any l W
 have h0 := List.takeWhile_append_dropWhile (p := hxc) (l := l)
 have hl : (l.takeWhile hxc).length + (l.dropWhile hxc).length = l.length := by
  have := congrArg List.length h0
  rwa [List.length_append] at this
 have hx : (B l).extract 0 (l.takeWhile hxc).length = B (l.takeWhile hxc) := by
  rw [B_ext, List.drop_zero]
  congr 1
  have : (l.takeWhile hxc ++ l.dropWhile hxc).take (l.takeWhile hxc).length = l.takeWhile hxc := List.take_left
  rwa [h0] at this
 have z1 : (B l).size = l.length := B_size l
 have z2 : (B (l.dropWhile hxc)).size = (l.dropWhile hxc).length := B_size _
 clear h0
 generalize l.takeWhile hxc = T at *
 generalize l.dropWhile hxc = D at *
 obtain ⟨n, hn⟩ : ∃ n, T.length = n := ⟨_, rfl⟩
 obtain ⟨m, hm⟩ : ∃ m, D.length = m := ⟨_, rfl⟩
 rw [hn] at hx hl
 rw [hm] at z2 hl
 rw [← hl] at z1 hs
 clear hl hn hm
 have e : ((n + m : Nat) : Int) - m = n := by omega
 have hni : (n : Int) ≤ 10000 := by omega
 have hmi : (m : Int) ≤ 10000 := by omega
 generalize B D = bd at *
 generalize B T = bt at *
 go_enter Tryz.func72, Tryz.ntmps72
 go_wp2_with (go_at_call 126; refine (c _).mono ?_; rintro r w1 ⟨rfl, hb1⟩)
 go_ret2
 exact ⟨rfl, hb1⟩
end
def sb (s : ByteArray) (i : Nat) : Int := if h : i < s.size then ((s[i]'h).toNat : Int) else 0
theorem sb_lt {s : ByteArray} {i : Nat} (h : i < s.size) : ((s[i]'h).toNat : Int) = sb s i := by unfold sb; rw [dif_pos h]
theorem sb_bd (s : ByteArray) (i : Nat) : 0 ≤ sb s i ∧ sb s i ≤ 255 := by
 unfold sb; split
 ·rename_i h; have := (s[i]'h).toNat_lt; omega
 ·omega
def digB (s : ByteArray) : Nat → Bool
 | 0 => true
 | k + 1 => digB s k && decide (48 ≤ sb s k ∧ sb s k ≤ 57)
def isDigB (s : ByteArray) : Bool := digB s s.size && decide (0 < s.size)
theorem digB_false {s : ByteArray} : ∀ (n : Nat) {k : Nat}, k < n → ¬ (48 ≤ sb s k ∧ sb s k ≤ 57) → digB s n = false
 | 0, k, h, _ => by omega
 | n + 1, k, h, hb => by
  unfold digB
  by_cases e : k = n
  ·subst e; simp [hb]
  ·rw [digB_false n (by omega) hb]; rfl
theorem allDigits_any (s : ByteArray) (w : World) (hs : s.size < 4294967296) :
  Calls Tryz.prog 222 #[.string s] w fun e w' => e = .returned (.bool (isDigB s)) ∧ w = w' := by
 go_enter Tryz.func222, Tryz.ntmps222
 go_wp2
 go_loop [3, 6] (fun u3 i => ∃ k : Nat, k ≤ s.size ∧ i = .int .i64 k ∧ digB s k = true) (fun _ i => s.size - (intOf i).toNat)
 case atStart => exact ⟨0, Nat.zero_le _, rfl, rfl⟩
 case round =>
  obtain ⟨k, hk, rfl, hd⟩ := hrel
  by_cases hlt : k < s.size
  ·have hki : (k : Int) < s.size := by omega
   have hsb := sb_lt hlt
   have hbd := sb_bd s k
   by_cases h1 : sb s k < 48
   ·have HF : Hid (isDigB s = false) := by show _ = _; unfold isDigB; rw [digB_false s.size hlt (by omega)]; rfl
    go_wp2
    go_ret
    exact ⟨by rw [HF.out]; rfl, rfl⟩
   ·by_cases h2 : 57 < sb s k
    ·have HF : Hid (isDigB s = false) := by show _ = _; unfold isDigB; rw [digB_false s.size hlt (by omega)]; rfl
     go_wp2
     go_ret
     exact ⟨by rw [HF.out]; rfl, rfl⟩
    ·have HD : Hid (digB s (k + 1) = true) := by show _ = _; unfold digB; rw [hd]; simp; omega
     clear hd
     go_wp2
     go_round
     case rel => exact ⟨k + 1, by omega, by go_num, HD.out⟩
     case measure => simp [intOf]; omega
  ·obtain rfl : k = s.size := by omega
   have HF : Hid (isDigB s = decide (0 < s.size)) := by show _ = _; unfold isDigB; rw [hd]; simp
   clear hd
   go_wp2
   go_ret
   exact ⟨by rw [HF.out]; rfl, rfl⟩
section
def numV (s : ByteArray) : Nat → Int
 | 0 => 0
 | k + 1 => numV s k * 10 + (sb s k - 48)
theorem digB_at {s : ByteArray} : ∀ (n : Nat), digB s n = true → ∀ k, k < n → 48 ≤ sb s k ∧ sb s k ≤ 57
 | 0, _, k, h => by omega
 | n + 1, hd, k, h => by
  unfold digB at hd
  simp at hd
  by_cases e : k = n
  ·subst e; exact hd.2
  ·exact digB_at n hd.1 k (by omega)
theorem numV_bd {s : ByteArray} : ∀ (n : Nat), digB s n = true → 0 ≤ numV s n ∧ numV s n < 10 ^ n
 | 0, _ => by simp [numV]
 | n + 1, hd => by
  have h1 := digB_at (n + 1) hd n (by omega)
  have h2 := numV_bd n (by unfold digB at hd; simp at hd; exact hd.1)
  simp only [numV]
  rw [Int.pow_succ]
  omega
theorem p10_le {a b : Nat} (h : a ≤ b) : (10 : Int) ^ a ≤ 10 ^ b := by
 have : (10 : Nat) ^ a ≤ 10 ^ b := Nat.pow_le_pow_right (by decide) h
 exact_mod_cast this
theorem wl_set (z : Nat → Int) (n j : Nat) (l : Int) : (wl z n).set j (.int .u64 l) = wl (fun i => if i = j then l else z i) n := by
 apply List.ext_getElem?
 intro i
 unfold wl
 rw [List.getElem?_set]
 by_cases hi : i < n
 ·by_cases e : j = i
  ·subst e; simp [hi]
  ·simp [hi, e, Ne.symm e]
 ·by_cases e : j = i
  ·subst e; simp [hi]
  ·simp [hi, e]
theorem wl_congr {x y : Nat → Int} (n : Nat) (h : ∀ i, i < n → x i = y i) : wl x n = wl y n := by
 unfold wl
 exact List.map_congr_left fun i hi => by rw [h i (by simpa using hi)]
theorem owns_form {w : World} {base n c : Nat} {ao : Option Addr} {xs : List Value} (h : w.ownsRow base 22 1 (.slice ao n c) n xs) : ∀ q, (Value.slice ao n c).ownBlock = some q → base ≤ q := fun q hq => (h.lt q hq).1
theorem owns_some {w : World} {base n c : Nat} {ao : Option Addr} {xs : List Value} (h : w.ownsRow base 22 1 (.slice ao n c) n xs) (hn : 0 < n) : ∃ g, ao = some ⟨g, 0, none⟩ ∧ base ≤ g := by
 obtain ⟨g, cap, e, hb, _⟩ := h.form hn
 cases e
 exact ⟨g, rfl, hb⟩
theorem wl_at (z : Nat → Int) (n j : Nat) (h : j < n) : (wl z n)[j]? = some (.int .u64 (z j)) := by unfold wl; simp [h]
def Row (base : Nat) (ao : Option Addr) (n c : Nat) (x : Nat → Int) (w : World) : Prop :=
 w.ownsRow base 22 1 (.slice ao n c) n (wl x n) ∧ Words x ∧ (∀ i, n ≤ i → x i = 0) ∧ sizeL x n = n ∧ base ≤ w.heap.size
theorem apn_trim {x z : Nat → Int} {n : Nat} {S b : Int} (hx : Words x) (hz : Words z) (ht : sizeL x n = n) (hS : 1 ≤ S) (hb : 0 ≤ b) (hv : val z n = val x n * S + b) : sizeL z n = n := by
 cases n with
 | zero => rfl
 | succ m =>
  by_cases e : z m = 0
  ·exfalso
   have h1 : val z m < val x (m + 1) := val_longer (x := z) hz hx (Nat.lt_succ_self m) ht
   have h2 : val z (m + 1) = val z m := by simp [val, e]
   have h3 := (val_bd hx (m + 1)).1
   have h4 : val x (m + 1) * 1 ≤ val x (m + 1) * S := Int.mul_le_mul_of_nonneg_left hS h3
   omega
  ·simp [sizeL, e]
set_option maxRecDepth 20000 in
theorem appendPart_any (base : Nat) (a : Option Addr) (n c : Nat) (x : Nat → Int) (s : ByteArray) (w : World) (hn : n < 100000) (hs : s.size ≤ 19) (hd : digB s s.size = true) (h : Row base a n c x w) :
  Calls Tryz.prog 223 #[.slice a n c, .string s] w fun e w' => ∃ ao k cap z, e = .returned (.slice ao k cap) ∧ k ≤ n + 1 ∧ Row base ao k cap z w' ∧ val z k = val x n * 10 ^ s.size + numV s s.size ∧ Below base w w' := by
 obtain ⟨hown, hx, hx0, hxt, hbase⟩ := h
 have hdig := digB_at s.size hd
 have hnv := numV_bd s.size hd
 have hS19 : (10 : Int) ^ s.size ≤ 10 ^ 19 := p10_le hs
 have HX : Hid (Words x) := hx
 have HX0 : Hid (∀ i, n ≤ i → x i = 0) := hx0
 have HXT : Hid (sizeL x n = n) := hxt
 have HNV : Hid (0 ≤ numV s s.size ∧ numV s s.size < 10 ^ s.size) := hnv
 have HS19 : Hid ((10 : Int) ^ s.size ≤ 10 ^ 19) := hS19
 have HOWN : Hid (w.ownsRow base 22 1 (.slice a n c) n (wl x n)) := hown
 have HD : Hid (digB s s.size = true) := hd
 clear hx hx0 hxt hnv hS19 hown hd
 go_enter Tryz.func223, Tryz.ntmps223
 go_wp2
 go_loop [5, 6, 7, 12] (fun sc be u7 i => ∃ (k : Nat) (S b : Int), k ≤ s.size ∧ i = .int .i64 k ∧ sc = .int .u64 S ∧ be = .int .u64 b ∧ Hid (S = 10 ^ k ∧ b = numV s k) ∧ 0 ≤ b ∧ b < S ∧ S ≤ 10000000000000000000) (fun _ _ _ i => s.size - (intOf i).toNat)
 case atStart => exact ⟨0, 1, 0, Nat.zero_le _, rfl, rfl, rfl, ⟨by simp, rfl⟩, by decide, by decide, by decide⟩
 case round =>
  obtain ⟨k, S, b, hk, rfl, rfl, rfl, hSb, hb0, hbS, hS⟩ := hrel
  by_cases hlt : k < s.size
  ·have hki : (k : Int) < s.size := by omega
   have hsb := sb_lt hlt
   have hbd := hdig k hlt
   have hS2 : S ≤ 1000000000000000000 := by
    have := p10_le (show k ≤ 18 by omega)
    rw [← hSb.out.1] at this
    exact this
   have HSB : Hid (S * 10 = 10 ^ (k + 1) ∧ b * 10 + (sb s k - 48) = numV s (k + 1)) := by
    show _ ∧ _
    obtain ⟨e1, e2⟩ := hSb.out
    exact ⟨by rw [e1, Int.pow_succ], by rw [e2]; rfl⟩
   clear hdig hSb
   go_wp2
   go_round
   case rel => exact ⟨k + 1, S * 10, b * 10 + (sb s k - 48), by omega, by go_num, by go_num, by go_num, HSB.out, by omega, by omega, by omega⟩
   case measure => simp [intOf]; omega
  ·obtain rfl : k = s.size := by omega
   clear hdig hlt
   clear HNV HS19 HD
   go_wp2
   go_loopw [6, 8, 9, 28, 33] (fun be u8 u9 i u33 wr => ∃ (j : Nat) (C : Int) (z : Nat → Int), j ≤ n ∧ i = .int .i64 j ∧ be = .int .u64 C ∧ (0 ≤ C ∧ C ≤ 18446744073709551615) ∧ wr.ownsRow base 22 1 (.slice a n c) n (wl z n) ∧ Words z ∧ Hid (val z n + C * 18446744073709551616 ^ j = val x j * S + b + (val x n - val x j)) ∧ (∀ i, j ≤ i → z i = x i) ∧ Below base w wr) (fun _ _ _ i _ _ => n - (intOf i).toNat)
   case atStart => exact ⟨0, b, x, Nat.zero_le _, rfl, rfl, by omega, HOWN.out, HX.out, by show _ = _; simp [val]; omega, fun _ _ => rfl, Below.refl _ _⟩
   case round =>
    obtain ⟨j, C, z, hj, rfl, rfl, hCb, hO, hzw, hv, hzx, hU⟩ := hrel
    by_cases hlt : j < n
    ·have hji : (j : Int) < n := by omega
     obtain ⟨g, rfl, hbg⟩ := owns_some hO (by omega)
     have hcj := (hO.cellAt j (by omega)).trans (wl_at z n j hlt)
     have hfj := hO.frozenAt j
     have hst := fun l => (hO.stored j (.int .u64 l))
     have hma := fun w => mulAdd_any (z j) S 0 C w (hzw j) (by omega) (by decide) hCb
     have HST : Hid (∀ l, (wr.setCell ⟨g, j, none⟩ (.int .u64 l)).ownsRow base 22 1 (.slice (some ⟨g, 0, none⟩) n c) n ((wl z n).set j (.int .u64 l)) ∧ wr.grownBy (wr.setCell ⟨g, j, none⟩ (.int .u64 l)) (some g)) := hst
     have HU : Hid (Below base w wr) := hU
     have HZW : Hid (Words z) := hzw
     have HZX : Hid (∀ i, j ≤ i → z i = x i) := hzx
     clear hO hU hzw hzx hst
     go_wp2_with (go_at_call 225; refine (hma _).mono ?_; rintro e w1 ⟨l, hi, rfl, hlh, hlb, hhb, rfl⟩)
     go_roundw
     case rel =>
      refine ⟨j + 1, hi, fun i => if i = j then l else z i, by omega, by go_num, rfl, hhb, ?_, upd_words HZW.out hlb, ?_, ?_, HU.out.grown (HST.out l).2 (Nat.le_trans hbase HU.out.size) (fun q hq => by cases hq; exact hbg)⟩
      ·rw [← wl_set]; exact (HST.out l).1
      ·show _ = _
       rw [val_set z j l n (by omega)]
       have e1 := hv.out
       have e3 := HZX.out j (Nat.le_refl _)
       rw [e3] at hlh ⊢
       simp only [val]
       rw [Int.pow_succ]
       generalize (18446744073709551616 : Int) ^ j = P at *
       have e2 : l * P + hi * (P * 18446744073709551616) = (x j * S + 0 + C) * P := by rw [← hlh]; grind
       grind
      ·intro i hi2
       exact (if_neg (show ¬ i = j by omega)).trans (HZX.out i (by omega))
     case measure => simp [intOf]; omega
    ·obtain rfl : j = n := by omega
     have hv' : val z j + C * 18446744073709551616 ^ j = val x j * S + b := by have := hv.out; omega
     have hz0 : ∀ i, j ≤ i → z i = 0 := fun i hi => (hzx i hi).trans (HX0.out i hi)
     by_cases hC : C = 0
     ·subst hC
      have hv2 : val z j = val x j * S + b := by rw [← hv']; simp
      have HR : Hid (Row base a j c z wr) := ⟨hO, hzw, hz0, apn_trim HX.out hzw HXT.out (by omega) hb0 hv2, Nat.le_trans hbase hU.size⟩
      have HV : Hid (val z j = val x j * S + b) := hv2
      have HU : Hid (Below base w wr) := hU
      clear hO hU hzw hzx hz0 hv hv' hv2
      go_wp2
      go_ret
      exact ⟨a, j, c, z, rfl, by omega, HR.out, by rw [HV.out, hSb.out.1, ← hSb.out.2], HU.out⟩
     ·have hC0 : 0 < C := by omega
      obtain ⟨i0, hi, hz00, hz1, hz2⟩ := info_parts Tryz.info22
      have HOWN2 : (wr.alloc (.cells #[.int .u64 C] 22)).ownsRow base 22 1 (.slice a j c) j (wl z j) := hO.alloc _
      have HNEWS : ∀ (q : Nat) (u : Value), [Value.int .u64 C][q]? = some u → (wr.alloc (.cells #[.int .u64 C] 22)).cell? ((⟨wr.heap.size, 0, none⟩ : Addr).add q) = some u := by
       intro q u hq
       match q, hq with
       | 0, hq => simp at hq; subst hq; simp [Addr.add]
      have HONE : ∀ u ∈ [Value.int .u64 C], u.oneCell' = true := by
       intro u hu; simp at hu; subst hu; rfl
      have hbs := Nat.le_trans hbase hU.size
      have HOF : Hid (∀ q, (Value.slice a j c).ownBlock = some q → base ≤ q) := owns_form hO
      have HU : Hid (Below base w wr) := hU
      have HZW : Hid (Words z) := hzw
      have HZ0 : Hid (∀ i, j ≤ i → z i = 0) := hz0
      have HV : Hid (val z j + C * 18446744073709551616 ^ j = val x j * S + b) := hv'
      clear hO hU hzw hzx hz0 hv hv'
      go_wp2_with (first | (at_builtin; refine wpList_append_lies _ rfl (.tmp 46) (.tmp 48) 49 rfl base 22 i0 (.int .u64 0) 1 8 Tryz.underlying49 hi hz00 hz1 hz2 rfl (by decide) (.slice a j c) j (wl z j) rfl HOWN2 ⟨wr.heap.size, 0, none⟩ 1 1 [Value.int .u64 C] rfl rfl HNEWS HONE (by omega) (by unfold maxLen; omega) (by omega) (by simp; omega) (wr.heap.size + 1) (by simp) ?_; intro g cap w1 hown1 hgrow hat hlt1; clear HOWN2 HNEWS HONE))
      have HB1 : Below base wr w1 := ((Below.refl _ wr).alloc hbs _).grown hgrow (by simp; omega) HOF.out
      have e1 : wl z j ++ [Value.int .u64 C] = wl (fun i => if i = j then C else z i) (j + 1) := by
       rw [← wl_succ, if_pos rfl, wl_congr (y := fun i => if i = j then C else z i) j fun i hi => (if_neg (show ¬ i = j by omega)).symm]
      rw [e1] at hown1
      have HR : Hid (Row base (some ⟨g, 0, none⟩) (j + 1) cap (fun i => if i = j then C else z i) w1) := by
       refine ⟨hown1, upd_words HZW.out hCb, fun i hi => (if_neg (show ¬ i = j by omega)).trans (HZ0.out i (by omega)), ?_, Nat.le_trans hbs HB1.size⟩
       simp [sizeL]; omega
      have HV2 : Hid (val (fun i => if i = j then C else z i) (j + 1) = val x j * S + b) := by
       show _ = _
       rw [← HV.out]
       simp only [val, if_pos]
       rw [val_congr (y := z) j fun i hi => if_neg (show ¬ i = j by omega)]
      have HB2 : Hid (Below base w w1) := HU.out.trans HB1
      clear hown1 hgrow HB1 e1
      go_wp2
      go_ret
      exact ⟨_, j + 1, cap, _, rfl, by omega, HR.out, by rw [HV2.out, hSb.out.1, ← hSb.out.2], HB2.out⟩
end
theorem texT_len {c : Int} {s g : Bool} {d : List UInt8} {e : Int} (hd : d.length ≤ 4000) (he : -9223372036854775808 ≤ e ∧ e ≤ 9223372036854775807) : (texT c s g d e).length ≤ 4100 := by
 have hi := Lib.itoa_length_le e he.1 he.2
 have h1 : (bodT c g d e).length ≤ 4050 := by
  unfold bodT
  split
  ·simp
  ·split
   ·unfold nanT
    simp only [List.length_append, List.length_cons]
    split <;> split <;> simp <;> omega
   ·unfold finT dgT exT
    simp only [List.length_append]
    split <;> split <;> simp <;> omega
 unfold texT
 rw [List.length_append]
 split <;> simp <;> omega
theorem join_ok (c : Int) (s g : Bool) (d : List UInt8) (e : Int) (w : World) (hd : d.length ≤ 4000)  (T : List UInt8)
  (c24 : ∀ W, Below w.heap.size w W → Calls Tryz.prog 144 #[PV c s g d e] W fun x w' => x = .returned (.string (B T)) ∧ Below W.heap.size W w')
  (c9 : ∀ W, Calls Tryz.prog 36 #[.string (B T)] W fun x w' => x = .returned (.tuple #[PV c s g d e, .int .i64 0]) ∧ Below W.heap.size W w') :
  Calls Tryz.prog 88 #[PV c s g d e] w fun x w' => x = .returned (.tuple #[.string (B T), .int .i64 0]) ∧ Below w.heap.size w w' := by
 have htl := B_toList
 have hsz := B_size d
 have hdi : (d.length : Int) ≤ 4000 := by omega
 unfold PV at c24 c9 ⊢
 have hsm := gcell_set_map
 go_enter Tryz.func88, Tryz.ntmps88
 go_wp2_with (first | (go_at_call 144; refine (c24 _ bgo).mono ?_; rintro x w1 ⟨rfl, hb1⟩; obtain ⟨hc1, hf1, hz1_0, hl1_0, hA1, hs1⟩ := wz w hb1 w.heap.size; clear hb1) | (go_at_call 36; refine (c9 _).mono ?_; rintro x w2 ⟨rfl, hb2⟩; obtain ⟨hc2, hf2, hz2_0, hl2_0, hA2, hs2⟩ := wz w hb2 w.heap.size; clear hb2))
 go_ret2
 exact ⟨rfl, bgo⟩
def jnP (p : Prt) : Prop := p.dig.length ≤ 4000 ∧ cutP (texT p.cls p.sg p.sn p.dig p.ex) = some p
theorem cutE_some {l : List UInt8} {p : Prt} (h : cutP l = some p) : cutE l = 0 ∧ cutV l = p := by
 unfold cutE cutV
 have hl : ¬ 4000 < l.length := by
  intro h2; unfold cutP at h; rw [if_pos h2] at h; cases h
 rw [if_neg hl, h]; exact ⟨rfl, rfl⟩
theorem cutE_zero {l : List UInt8} (h : cutE l = 0) : cutP l = some (cutV l) := by
 unfold cutE at h
 split at h
 ·cases h
 ·split at h
  ·rename_i h2
   obtain ⟨p, hp⟩ := Option.isSome_iff_exists.1 h2
   unfold cutV; rw [hp]; rfl
  ·cases h
def Tb10 (w : World) : Prop := Lib.TabIs Tryz.prog w "internal/strconv.uint64pow10" .u64 Lib.pow10Tab
theorem Tb10.next {w w' : World} (h : Tb10 w) (hb : Below w.heap.size w w') : Tb10 w' := Lib.tabBelow_of_tabIs h w' hb
section
theorem xexp_p (y : UInt8) (z : List UInt8) (w : World) (hs : z.length ≤ 3998) (hy : (y.toNat : Int) = 112 ∨ (y.toNat : Int) = 80) (X : Int) (b : Bool) (C : Int) (g : Bool) (D : List UInt8) (E : Int)
  (c36 : ∀ W, Calls Tryz.prog 36 #[.string (B (48 :: 101 :: z))] W fun e w' => e = .returned (.tuple #[PV C false g D X, .int .i64 E]) ∧ Below W.heap.size W w') (hb : (E == 0) = b) :
  Calls Tryz.prog 74 #[.string (B (y :: z))] w fun e w' => e = .returned (.tuple #[.int .i64 X, .bool b]) ∧ Below w.heap.size w w' := by
 have htl := B_toList
 have hsz : (B (y :: z)).size = z.length + 1 := B_size _
 have hbt := xB_tl y z
 have hsb := xIDX0 y z
 have hyb := y.toNat_lt
 have p0 : (⟨#[48, 101]⟩ : ByteArray) ++ B z = B (48 :: 101 :: z) := B_app [48, 101] z
 have hzz : (B z).size = z.length := B_size z
 have hri : (z.length : Int) ≤ 3998 := by omega
 have hsm := gcell_set_map
 unfold PV at c36
 generalize B (48 :: 101 :: z) = bz at *
 rcases hy with hy | hy
 ·go_enter Tryz.func74, Tryz.ntmps74
  go_wp2_with (go_at_call 36; refine (c36 _).mono ?_; rintro r w1 ⟨rfl, hb1⟩; have hs1 := hb1.size)
  go_ret2
  exact ⟨by rw [← hb]; rfl, bgo⟩
 ·go_enter Tryz.func74, Tryz.ntmps74
  go_wp2_with (go_at_call 36; refine (c36 _).mono ?_; rintro r w1 ⟨rfl, hb1⟩; have hs1 := hb1.size)
  go_ret2
  exact ⟨by rw [← hb]; rfl, bgo⟩
theorem xexp_n (y : UInt8) (z : List UInt8) (w : World) (hs : z.length ≤ 3998) (h1 : ¬ y = 112) (h2 : ¬ y = 80) :
  Calls Tryz.prog 74 #[.string (B (y :: z))] w fun e w' => e = .returned (.tuple #[.int .i64 0, .bool false]) ∧ Below w.heap.size w w' := by
 have htl := B_toList
 have hsz : (B (y :: z)).size = z.length + 1 := B_size _
 have hsb := xIDX0 y z
 have hyb := y.toNat_lt
 have hri : (z.length : Int) ≤ 3998 := by omega
 obtain ⟨n1, b1, m1⟩ := u8_ne 112 rfl h1
 obtain ⟨n2, b2, m2⟩ := u8_ne 80 rfl h2
 clear h1 h2
 go_enter Tryz.func74, Tryz.ntmps74
 go_wp2
 go_ret2
 exact ⟨rfl, Below.refl _ _⟩
theorem xexp_0 (w : World) : Calls Tryz.prog 74 #[.string (B [])] w fun e w' => e = .returned (.tuple #[.int .i64 0, .bool false]) ∧ Below w.heap.size w w' := by
 have htl := B_toList
 have hsz : (B []).size = 0 := rfl
 go_enter Tryz.func74, Tryz.ntmps74
 go_wp2
 go_ret2
 exact ⟨rfl, Below.refl _ _⟩
end
theorem xexp_any (l : List UInt8) (w : World) (hs : l.length ≤ 3999) : Calls Tryz.prog 74 #[.string (B l)] w fun e w' => e = .returned (.tuple #[.int .i64 ((hpx l).getD 0), .bool (hpx l).isSome]) ∧ Below w.heap.size w w' := by
 cases l with
 | nil => exact xexp_0 w
 | cons y z =>
  rw [List.length_cons] at hs
  by_cases hp : y = 112 ∨ y = 80
  ·have hc := cut_0e (z := z) (by omega)
   have c36 := fun W => cut_any (48 :: 101 :: z) W (by simp only [List.length_cons]; omega)
   have hy : (y.toNat : Int) = 112 ∨ (y.toNat : Int) = 80 := by rcases hp with rfl | rfl <;> decide
   by_cases hi : isd (sgR z) = true
   ·rw [if_pos hi] at hc
    obtain ⟨e1, e2⟩ := cutE_some hc
    rw [e1, e2] at c36
    have e3 : hpx (y :: z) = some (clampE (exS z)) := if_pos ⟨hp, hi⟩
    rw [e3]
    exact xexp_p y z w (by omega) hy _ true _ _ _ _ c36 rfl
   ·rw [if_neg hi] at hc
    have e1 : cutV (48 :: 101 :: z) = Prt.zero := by unfold cutV; rw [hc]; rfl
    have e2 : cutE (48 :: 101 :: z) = 2 := by
     unfold cutE
     rw [if_neg (by simp only [List.length_cons]; omega), hc]
     rfl
    rw [e1, e2] at c36
    have e3 : hpx (y :: z) = none := if_neg fun h => hi h.2
    rw [e3]
    exact xexp_p y z w (by omega) hy _ false _ _ _ _ c36 rfl
  ·have e3 : hpx (y :: z) = none := if_neg fun h => hp h.1
   rw [e3]
   exact xexp_n y z w (by omega) (fun h => hp (Or.inl h)) (fun h => hp (Or.inr h))
theorem nat_step {D : List UInt8} {e : Nat} (he : e ≤ D.length) (h0 : 0 < e) : hxV (sml (D.drop (e - 16))) = hxV (sml ((D.take e).drop (e - 16))) * 16 ^ (D.length - e) + hxV (sml (D.drop e)) := by
 have e1 : D.drop (e - 16) = (D.take e).drop (e - 16) ++ D.drop e := by
  have h1 : D = D.take e ++ D.drop e := (List.take_append_drop e D).symm
  have h2 : (D.take e ++ D.drop e).drop (e - 16) = (D.take e).drop (e - 16) ++ D.drop e := by
   rw [List.drop_append_of_le_length (by rw [List.length_take]; omega)]
  rwa [← h1] at h2
 rw [e1, sml_app, hxV_app, sml_len, List.length_drop]
theorem own_belT {w w' : World} {base n : Nat} {t : TypeId} {v : Value} {xs : List Value} (h : w.ownsRow base t 1 v n xs) (hB : Below w.heap.size w w') : w'.ownsRow base t 1 v n xs := by
 obtain ⟨h1, h2⟩ := h
 refine ⟨h1, ?_⟩
 rcases h2 with h2 | ⟨g', cap, cur, e, hb, hh, r⟩
 ·exact Or.inl h2
 ·have hg : g' < w.heap.size := by
   rcases Nat.lt_or_ge g' w.heap.size with h' | h'
   ·exact h'
   ·rw [Array.getElem?_eq_none h'] at hh; cases hh
  exact Or.inr ⟨g', cap, cur, e, hb, (hB.block g' hg).trans hh, r⟩
theorem nt_upd {K V g : Nat} {a : Option Addr} {k p : Nat} {w w' : World} (h : Nt K V (.slice a k p) w) (ha : Apart a g) (hU : Upd g w w') : Nt K V (.slice a k p) w' := by
 obtain ⟨a0, k0, p0, z, e, h1, h2, h3⟩ := h
 cases e
 exact ⟨_, _, _, z, rfl, h1, hU.num' ha h2, h3⟩
theorem p1616 (j : Nat) : (18446744073709551616 : Int) ^ j = ((16 ^ (16 * j) : Nat) : Int) := by
 rw [Nat.pow_mul, show (16 : Nat) ^ 16 = 18446744073709551616 by decide]
 simp
theorem news1u (W : World) (V : Nat) : ∀ (q : Nat) (u : Value), [Value.int .u64 (V : Int)][q]? = some u → (W.alloc (.cells #[.int .u64 (V : Int)] 22)).cell? ((⟨W.heap.size, 0, none⟩ : Addr).add q) = some u := by
 intro q u hq
 match q, hq with
 | 0, hq => simp at hq; subst hq; simp [Addr.add]
theorem one1u (V : Nat) : ∀ u ∈ [Value.int .u64 (V : Int)], u.oneCell' = true := by
 intro u hu; simp at hu; subst hu; rfl
theorem xnat_v (D : List UInt8) (hD : D.all hxc = true) (hl : D.length ≤ 4000) (w : World) : Calls Tryz.prog 75 #[.string (B D)] w fun e w' => ∃ a0 k0 p0, e = .returned (.slice a0 k0 p0) ∧ Nt 300 (hxV (sml D)) (.slice a0 k0 p0) w' ∧ (∀ g, g < w.heap.size → Apart a0 g) ∧ Below w.heap.size w w' := by
 obtain ⟨L, hL⟩ : ∃ L, D.length = L := ⟨_, rfl⟩
 have hsz : (B D).size = L := by rw [B_size, hL]
 rw [hL] at hl
 have hli : (L : Int) ≤ 4000 := by omega
 have HC : Hid (∀ e, e ≤ L → 0 < e → ((D.take e).drop (e - 16)).all hxc = true ∧ (D.take e).drop (e - 16) ≠ [] ∧ ((D.take e).drop (e - 16)).length ≤ 16 ∧ (B D).extract (e - 16) e = B ((D.take e).drop (e - 16))) := fun e h1 h2 => by
  have hlen : ((D.take e).drop (e - 16)).length = e - (e - 16) := by rw [List.length_drop, List.length_take]; omega
  refine ⟨List.all_eq_true.2 fun y hy => List.all_eq_true.1 hD y (List.mem_of_mem_take (List.mem_of_mem_drop hy)), fun h => ?_, by omega, B_ext D _ _⟩
  rw [h] at hlen
  simp at hlen
  omega
 have HS : Hid (∀ e, e ≤ L → 0 < e → hxV (sml (D.drop (e - 16))) = hxV (sml ((D.take e).drop (e - 16))) * 16 ^ (L - e) + hxV (sml (D.drop e))) := fun e h1 h2 => by
  have := nat_step (D := D) (e := e) (by omega) h2
  rwa [hL] at this
 have HV : Hid (∀ C : List UInt8, C.all hxc = true → C.length ≤ 16 → hxV (sml C) < 18446744073709551616) := fun C h1 h2 => by
  have h3 := hxV_lt (hxc_all_sml h1)
  rw [sml_len] at h3
  have h4 : 16 ^ C.length ≤ 16 ^ 16 := Nat.pow_le_pow_right (by decide) h2
  have h5 : (16 : Nat) ^ 16 = 18446744073709551616 := by decide
  omega
 have H0 : Hid (hxV (sml (D.drop L)) = 0 ∧ hxV (sml (D.drop 0)) = hxV (sml D)) := by
  refine ⟨?_, rfl⟩
  rw [List.drop_eq_nil_of_le (by omega)]
  rfl
 obtain ⟨i0, hi, hz0, hz1, hz2⟩ := info_parts Tryz.info22
 clear hD hL
 go_enter Tryz.func75, Tryz.ntmps75
 go_wp2
 go_loopw [3, 4] (fun t3 t4 wr => ∃ (j : Nat) (ao : Option Addr) (cp : Nat) (z : Nat → Int), 16 * j ≤ L + 15 ∧ t4 = .int .i64 ((L : Int) - 16 * j) ∧ t3 = .slice ao j cp ∧ wr.ownsRow w.heap.size 22 1 (.slice ao j cp) j (wl z j) ∧ Words z ∧ (∀ i, j ≤ i → z i = 0) ∧ val z j = (hxV (sml (D.drop (L - 16 * j))) : Int) ∧ Below w.heap.size w wr) (fun _ t4 _ => (intOf t4).toNat)
 case atStart => exact ⟨0, none, 0, fun _ => 0, by omega, by go_num, rfl, World.ownsRow_nil _ _ _ _, fun _ => (by decide : (0 : Int) ≤ 0 ∧ (0 : Int) ≤ 18446744073709551615), fun _ _ => rfl, by rw [Nat.mul_zero, Nat.sub_zero, H0.out.1]; rfl, Below.refl _ _⟩
 case round =>
  obtain ⟨j, ao, cp, z, hj, ht4, rfl, hown, hzw, hzz, hv, hB⟩ := hrel
  by_cases hlt : 16 * j < L
  ·obtain ⟨e, he⟩ : ∃ e, L - 16 * j = e := ⟨_, rfl⟩
   rw [show (L : Int) - 16 * j = e by omega] at ht4
   subst ht4
   rw [he] at hv
   obtain ⟨f, hf⟩ : ∃ f, e - 16 = f := ⟨_, rfl⟩
   obtain ⟨c1, c2, c3, c4⟩ := HC.out e (by omega) (by omega)
   have hst := HS.out e (by omega) (by omega)
   rw [hf] at c1 c2 c3 c4 hst
   have hVb := HV.out _ c1 c3
   have cP := fun W => puint_v _ c1 c2 c3 W
   have hsl : ∀ W, (Instr.slice 9 (Value.string (B D)) (some (.int .i64 (f : Int))) (some (.int .i64 (e : Int))) none).run Tryz.prog W = .ok (.string (B ((D.take e).drop f))) W := fun W => by
    rw [run_slice_string W 9 _ _ _ _ _ Tryz.underlying9 (by omega) (by omega) (by rw [hsz]; omega)]
    rw [Int.toNat_natCast, Int.toNat_natCast, c4]
   have hmx : max 0 ((e : Int) - 16) = (f : Int) := by omega
   have hei : 0 < (e : Int) := by omega
   have hei2 : (e : Int) ≤ 4000 := by omega
   have hbw := hB.size
   generalize (D.take e).drop f = C at *
   obtain ⟨V, hV⟩ : ∃ V, hxV (sml C) = V := ⟨_, rfl⟩
   rw [hV] at hst hVb cP
   generalize B C = bc at *
   have HO : ∀ W, Below wr.heap.size wr W → W.ownsRow w.heap.size 22 1 (.slice ao j cp) j (wl z j) := fun W hW => own_belT hown hW
   have HOF : Hid (∀ q, (Value.slice ao j cp).ownBlock = some q → w.heap.size ≤ q) := owns_form hown
   have HB : Hid (Below w.heap.size w wr) := hB
   have HZ : Hid (Words z ∧ ∀ i, j ≤ i → z i = 0) := ⟨hzw, hzz⟩
   have HVAL : Hid (val z j = (hxV (sml (D.drop e)) : Int)) := hv
   have HST : Hid (hxV (sml (D.drop f)) = V * 16 ^ (L - e) + hxV (sml (D.drop e))) := hst
   have HEQ : Hid (L - e = 16 * j ∧ L - 16 * (j + 1) = f ∧ 16 * j + e = L) := ⟨by omega, by omega, by omega⟩
   clear hown hB hzw hzz hv hst c1 c2 c3 c4 hV he hf
   go_wp2_with (first
    | (go_at_call 128; refine (cP _).mono ?_; rintro r w5 ⟨rfl, hb5⟩; have hs5 := hb5.size; have HOWN : (w5.alloc (.cells #[.int .u64 (V : Int)] 22)).ownsRow w.heap.size 22 1 (.slice ao j cp) j (wl z j) := (HO w5 hb5).alloc _; have HNEWS : ∀ (q : Nat) (u : Value), [Value.int .u64 (V : Int)][q]? = some u → (w5.alloc (.cells #[.int .u64 (V : Int)] 22)).cell? ((⟨w5.heap.size, 0, none⟩ : Addr).add q) = some u := news1u w5 V; have HONE : ∀ u ∈ [Value.int .u64 (V : Int)], u.oneCell' = true := one1u V)
    | (at_builtin; refine wpList_append_lies _ rfl (.tmp 23) (.tmp 25) 49 rfl w.heap.size 22 i0 (.int .u64 0) 1 8 Tryz.underlying49 hi hz0 hz1 hz2 rfl (by decide) (.slice ao j cp) j (wl z j) rfl HOWN ⟨w5.heap.size, 0, none⟩ 1 1 [Value.int .u64 (V : Int)] rfl rfl HNEWS HONE (by omega) (by unfold maxLen; omega) (by omega) (by simp; omega) (w5.heap.size + 1) (by simp) ?_; intro g cap w6 hown6 hgrow hat hlt6; clear HOWN HNEWS HONE))
   go_roundw
   case rel =>
    obtain ⟨q1, q2, q3⟩ := HEQ.out
    refine ⟨j + 1, some ⟨g, 0, none⟩, cap, fun i => if i = j then (V : Int) else z i, by omega, by go_num, rfl, ?_, ?_, ?_, ?_, ?_⟩
    ·have e2 : wl (fun i => if i = j then (V : Int) else z i) (j + 1) = wl z j ++ [Value.int .u64 (V : Int)] := by
      rw [← wl_succ, if_pos rfl]
      congr 1
      exact wl_congr j fun i hi => if_neg (by omega)
     rw [e2]
     exact hown6
    ·intro i
     show 0 ≤ (if i = j then (V : Int) else z i) ∧ (if i = j then (V : Int) else z i) ≤ _
     split
     ·omega
     ·exact HZ.out.1 i
    ·intro i hi
     exact (if_neg (by omega)).trans (HZ.out.2 i (by omega))
    ·show val (fun i => if i = j then (V : Int) else z i) j + (if j = j then (V : Int) else z j) * 18446744073709551616 ^ j = _
     rw [if_pos rfl, val_congr (x := fun i => if i = j then (V : Int) else z i) (y := z) j (fun i hi => if_neg (by omega)), HVAL.out, q2, HST.out, q1, p1616]
     rw [Int.natCast_add, Int.natCast_mul]
     omega
    ·exact HB.out.trans ((((hb5.mono (Nat.le_refl _)).alloc hs5 _).mono hbw).grown hgrow (by simp; omega) HOF.out)
   case measure => simp [intOf]; omega
  ·have HN : Hid (Nt 300 (hxV (sml D)) (.slice ao j cp) wr) := by
    refine ⟨ao, j, cp, z, rfl, by omega, num_of_owns' hzw hzz hown, ?_⟩
    rw [hv, show L - 16 * j = 0 by omega, H0.out.2]
   have HOF : Hid (∀ q, (Value.slice ao j cp).ownBlock = some q → w.heap.size ≤ q) := owns_form hown
   have HB : Hid (Below w.heap.size w wr) := hB
   have hle : ((L : Int) - 16 * j) ≤ 0 := by omega
   have hle2 : -100 ≤ ((L : Int) - 16 * j) := by omega
   subst ht4
   clear hown hzw hzz hv hB
   go_wp2
   go_ret
   refine ⟨ao, j, cp, rfl, HN.out, fun g hg => ?_, HB.out⟩
   intro p hp e
   subst hp
   have := HOF.out p.block rfl
   omega
end Go.Proofs.YtplocajjfoiklaaGreatDoor
