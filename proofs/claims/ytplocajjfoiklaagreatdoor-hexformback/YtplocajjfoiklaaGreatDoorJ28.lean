/-
  Texts that the proof leans on, joined: Apn, Nrd, Gv, Ha.
-/
import Derived.Test.YtplocajjfoiklaaGreatDoorJ27
import Derived.Test.YtplocajjfoiklaaGreatDoorJ14
import Derived.Lib.ItoaLen
import Derived.Test.YtplocajjfoiklaaGreatDoorJ1
set_option linter.unusedVariables false
set_option linter.unusedSimpArgs false
set_option maxRecDepth 20000
set_option linter.unusedSectionVars false
namespace Go.Proofs.YtplocajjfoiklaaGreatDoor
open Go.RowKit

/-- the number that the first k bytes write -/
def numV (s : ByteArray) : Nat → Int
  | 0 => 0
  | k + 1 => numV s k * 10 + (sb s k - 48)
theorem digB_at {s : ByteArray} : ∀ (n : Nat), digB s n = true → ∀ k, k < n → 48 ≤ sb s k ∧ sb s k ≤ 57
  | 0, _, k, h => by omega
  | n + 1, hd, k, h => by
    unfold digB at hd
    simp at hd
    by_cases e : k = n
    · subst e; exact hd.2
    · exact digB_at n hd.1 k (by omega)
theorem numV_bd {s : ByteArray} : ∀ (n : Nat), digB s n = true → 0 ≤ numV s n ∧ numV s n < 10 ^ n
  | 0, _ => by simp [numV]
  | n + 1, hd => by
    have h1 := digB_at (n + 1) hd n (by omega)
    have h2 := numV_bd n (by unfold digB at hd; simp at hd; exact hd.1)
    simp only [numV]
    rw [Int.pow_succ]
    omega
theorem p10_le {a b : Nat} (h : a ≤ b) : (10 : Int) ^ a ≤ 10 ^ b := by
  have : (10 : Nat) ^ a ≤ 10 ^ b := Nat.pow_le_pow_right (by decide) h
  exact_mod_cast this
theorem wl_set (z : Nat → Int) (n j : Nat) (l : Int) : (wl z n).set j (.int .u64 l) = wl (fun i => if i = j then l else z i) n := by
  apply List.ext_getElem?
  intro i
  unfold wl
  rw [List.getElem?_set]
  by_cases hi : i < n
  · by_cases e : j = i
    · subst e; simp [hi]
    · simp [hi, e, Ne.symm e]
  · by_cases e : j = i
    · subst e; simp [hi]
    · simp [hi, e]
theorem wl_congr {x y : Nat → Int} (n : Nat) (h : ∀ i, i < n → x i = y i) : wl x n = wl y n := by
  unfold wl
  exact List.map_congr_left fun i hi => by rw [h i (by simpa using hi)]
theorem owns_form {w : World} {base n c : Nat} {ao : Option Addr} {xs : List Value} (h : w.ownsRow base 22 1 (.slice ao n c) n xs) : ∀ q, (Value.slice ao n c).ownBlock = some q → base ≤ q := fun q hq => (h.lt q hq).1
theorem owns_some {w : World} {base n c : Nat} {ao : Option Addr} {xs : List Value} (h : w.ownsRow base 22 1 (.slice ao n c) n xs) (hn : 0 < n) : ∃ g, ao = some ⟨g, 0, none⟩ ∧ base ≤ g := by
  obtain ⟨g, cap, e, hb, _⟩ := h.form hn
  cases e
  exact ⟨g, rfl, hb⟩
theorem wl_at (z : Nat → Int) (n j : Nat) (h : j < n) : (wl z n)[j]? = some (.int .u64 (z j)) := by unfold wl; simp [h]

/-- a number in a row of one's own -/
def Row (base : Nat) (ao : Option Addr) (n c : Nat) (x : Nat → Int) (w : World) : Prop :=
  w.ownsRow base 22 1 (.slice ao n c) n (wl x n) ∧ Words x ∧ (∀ i, n ≤ i → x i = 0) ∧ sizeL x n = n ∧ base ≤ w.heap.size

theorem apn_trim {x z : Nat → Int} {n : Nat} {S b : Int} (hx : Words x) (hz : Words z) (ht : sizeL x n = n) (hS : 1 ≤ S) (hb : 0 ≤ b) (hv : val z n = val x n * S + b) : sizeL z n = n := by
  cases n with
  | zero => rfl
  | succ m =>
    by_cases e : z m = 0
    · exfalso
      have h1 : val z m < val x (m + 1) := val_longer (x := z) hz hx (Nat.lt_succ_self m) ht
      have h2 : val z (m + 1) = val z m := by simp [val, e]
      have h3 := (val_bd hx (m + 1)).1
      have h4 : val x (m + 1) * 1 ≤ val x (m + 1) * S := Int.mul_le_mul_of_nonneg_left hS h3
      omega
    · simp [sizeL, e]

set_option maxRecDepth 20000 in
set_option maxHeartbeats 2000000 in
theorem appendPart_any (base : Nat) (a : Option Addr) (n c : Nat) (x : Nat → Int) (s : ByteArray) (w : World) (hn : n < 100000) (hs : s.size ≤ 19) (hd : digB s s.size = true) (h : Row base a n c x w) :
    Calls Tryz.prog 223 #[.slice a n c, .string s] w fun e w' => ∃ ao k cap z, e = .returned (.slice ao k cap) ∧ k ≤ n + 1 ∧ Row base ao k cap z w' ∧ val z k = val x n * 10 ^ s.size + numV s s.size ∧ Below base w w' := by
  obtain ⟨hown, hx, hx0, hxt, hbase⟩ := h
  have hdig := digB_at s.size hd
  have hnv := numV_bd s.size hd
  have hS19 : (10 : Int) ^ s.size ≤ 10 ^ 19 := p10_le hs
  have HX : Hid (Words x) := hx
  have HX0 : Hid (∀ i, n ≤ i → x i = 0) := hx0
  have HXT : Hid (sizeL x n = n) := hxt
  have HNV : Hid (0 ≤ numV s s.size ∧ numV s s.size < 10 ^ s.size) := hnv
  have HS19 : Hid ((10 : Int) ^ s.size ≤ 10 ^ 19) := hS19
  have HOWN : Hid (w.ownsRow base 22 1 (.slice a n c) n (wl x n)) := hown
  have HD : Hid (digB s s.size = true) := hd
  clear hx hx0 hxt hnv hS19 hown hd
  go_enter Tryz.func223, Tryz.ntmps223
  go_wp2
  go_loop [5, 6, 7, 12] (fun sc be u7 i => ∃ (k : Nat) (S b : Int), k ≤ s.size ∧ i = .int .i64 k ∧ sc = .int .u64 S ∧ be = .int .u64 b ∧ Hid (S = 10 ^ k ∧ b = numV s k) ∧ 0 ≤ b ∧ b < S ∧ S ≤ 10000000000000000000) (fun _ _ _ i => s.size - (intOf i).toNat)
  case atStart => exact ⟨0, 1, 0, Nat.zero_le _, rfl, rfl, rfl, ⟨by simp, rfl⟩, by decide, by decide, by decide⟩
  case round =>
    obtain ⟨k, S, b, hk, rfl, rfl, rfl, hSb, hb0, hbS, hS⟩ := hrel
    by_cases hlt : k < s.size
    · have hki : (k : Int) < s.size := by omega
      have hsb := sb_lt hlt
      have hbd := hdig k hlt
      have hS2 : S ≤ 1000000000000000000 := by
        have := p10_le (show k ≤ 18 by omega)
        rw [← hSb.out.1] at this
        exact this
      have HSB : Hid (S * 10 = 10 ^ (k + 1) ∧ b * 10 + (sb s k - 48) = numV s (k + 1)) := by
        show _ ∧ _
        obtain ⟨e1, e2⟩ := hSb.out
        exact ⟨by rw [e1, Int.pow_succ], by rw [e2]; rfl⟩
      clear hdig hSb
      go_wp2
      go_round
      case rel => exact ⟨k + 1, S * 10, b * 10 + (sb s k - 48), by omega, by go_num, by go_num, by go_num, HSB.out, by omega, by omega, by omega⟩
      case measure => simp [intOf]; omega
    · obtain rfl : k = s.size := by omega
      clear hdig hlt
      clear HNV HS19 HD
      go_wp2
      go_loopw [6, 8, 9, 28, 33] (fun be u8 u9 i u33 wr => ∃ (j : Nat) (C : Int) (z : Nat → Int), j ≤ n ∧ i = .int .i64 j ∧ be = .int .u64 C ∧ (0 ≤ C ∧ C ≤ 18446744073709551615) ∧ wr.ownsRow base 22 1 (.slice a n c) n (wl z n) ∧ Words z ∧ Hid (val z n + C * 18446744073709551616 ^ j = val x j * S + b + (val x n - val x j)) ∧ (∀ i, j ≤ i → z i = x i) ∧ Below base w wr) (fun _ _ _ i _ _ => n - (intOf i).toNat)
      case atStart => exact ⟨0, b, x, Nat.zero_le _, rfl, rfl, by omega, HOWN.out, HX.out, by show _ = _; simp [val]; omega, fun _ _ => rfl, Below.refl _ _⟩
      case round =>
        obtain ⟨j, C, z, hj, rfl, rfl, hCb, hO, hzw, hv, hzx, hU⟩ := hrel
        by_cases hlt : j < n
        · have hji : (j : Int) < n := by omega
          obtain ⟨g, rfl, hbg⟩ := owns_some hO (by omega)
          have hcj := (hO.cellAt j (by omega)).trans (wl_at z n j hlt)
          have hfj := hO.frozenAt j
          have hst := fun l => (hO.stored j (.int .u64 l))
          have hma := fun w => mulAdd_any (z j) S 0 C w (hzw j) (by omega) (by decide) hCb
          have HST : Hid (∀ l, (wr.setCell ⟨g, j, none⟩ (.int .u64 l)).ownsRow base 22 1 (.slice (some ⟨g, 0, none⟩) n c) n ((wl z n).set j (.int .u64 l)) ∧ wr.grownBy (wr.setCell ⟨g, j, none⟩ (.int .u64 l)) (some g)) := hst
          have HU : Hid (Below base w wr) := hU
          have HZW : Hid (Words z) := hzw
          have HZX : Hid (∀ i, j ≤ i → z i = x i) := hzx
          clear hO hU hzw hzx hst
          go_wp2_with (go_at_call 225; refine (hma _).mono ?_; rintro e w1 ⟨l, hi, rfl, hlh, hlb, hhb, rfl⟩)
          go_roundw
          case rel =>
            refine ⟨j + 1, hi, fun i => if i = j then l else z i, by omega, by go_num, rfl, hhb, ?_, upd_words HZW.out hlb, ?_, ?_, HU.out.grown (HST.out l).2 (Nat.le_trans hbase HU.out.size) (fun q hq => by cases hq; exact hbg)⟩
            · rw [← wl_set]; exact (HST.out l).1
            · show _ = _
              rw [val_set z j l n (by omega)]
              have e1 := hv.out
              have e3 := HZX.out j (Nat.le_refl _)
              rw [e3] at hlh ⊢
              simp only [val]
              rw [Int.pow_succ]
              generalize (18446744073709551616 : Int) ^ j = P at *
              have e2 : l * P + hi * (P * 18446744073709551616) = (x j * S + 0 + C) * P := by rw [← hlh]; grind
              grind
            · intro i hi2
              exact (if_neg (show ¬ i = j by omega)).trans (HZX.out i (by omega))
          case measure => simp [intOf]; omega
        · obtain rfl : j = n := by omega
          have hv' : val z j + C * 18446744073709551616 ^ j = val x j * S + b := by have := hv.out; omega
          have hz0 : ∀ i, j ≤ i → z i = 0 := fun i hi => (hzx i hi).trans (HX0.out i hi)
          by_cases hC : C = 0
          · subst hC
            have hv2 : val z j = val x j * S + b := by rw [← hv']; simp
            have HR : Hid (Row base a j c z wr) := ⟨hO, hzw, hz0, apn_trim HX.out hzw HXT.out (by omega) hb0 hv2, Nat.le_trans hbase hU.size⟩
            have HV : Hid (val z j = val x j * S + b) := hv2
            have HU : Hid (Below base w wr) := hU
            clear hO hU hzw hzx hz0 hv hv' hv2
            go_wp2
            go_ret
            exact ⟨a, j, c, z, rfl, by omega, HR.out, by rw [HV.out, hSb.out.1, ← hSb.out.2], HU.out⟩
          · have hC0 : 0 < C := by omega
            obtain ⟨i0, hi, hz00, hz1, hz2⟩ := info_parts Tryz.info22
            have HOWN2 : (wr.alloc (.cells #[.int .u64 C] 22)).ownsRow base 22 1 (.slice a j c) j (wl z j) := hO.alloc _
            have HNEWS : ∀ (q : Nat) (u : Value), [Value.int .u64 C][q]? = some u → (wr.alloc (.cells #[.int .u64 C] 22)).cell? ((⟨wr.heap.size, 0, none⟩ : Addr).add q) = some u := by
              intro q u hq
              match q, hq with
              | 0, hq => simp at hq; subst hq; simp [Addr.add]
            have HONE : ∀ u ∈ [Value.int .u64 C], u.oneCell' = true := by
              intro u hu; simp at hu; subst hu; rfl
            have hbs := Nat.le_trans hbase hU.size
            have HOF : Hid (∀ q, (Value.slice a j c).ownBlock = some q → base ≤ q) := owns_form hO
            have HU : Hid (Below base w wr) := hU
            have HZW : Hid (Words z) := hzw
            have HZ0 : Hid (∀ i, j ≤ i → z i = 0) := hz0
            have HV : Hid (val z j + C * 18446744073709551616 ^ j = val x j * S + b) := hv'
            clear hO hU hzw hzx hz0 hv hv'
            go_wp2_with (first | (at_builtin; refine wpList_append_lies _ rfl (.tmp 46) (.tmp 48) 49 rfl base 22 i0 (.int .u64 0) 1 8 Tryz.underlying49 hi hz00 hz1 hz2 rfl (by decide) (.slice a j c) j (wl z j) rfl HOWN2 ⟨wr.heap.size, 0, none⟩ 1 1 [Value.int .u64 C] rfl rfl HNEWS HONE (by omega) (by unfold maxLen; omega) (by omega) (by simp; omega) (wr.heap.size + 1) (by simp) ?_; intro g cap w1 hown1 hgrow hat hlt1; clear HOWN2 HNEWS HONE))
            have HB1 : Below base wr w1 := ((Below.refl _ wr).alloc hbs _).grown hgrow (by simp; omega) HOF.out
            have e1 : wl z j ++ [Value.int .u64 C] = wl (fun i => if i = j then C else z i) (j + 1) := by
              rw [← wl_succ, if_pos rfl, wl_congr (y := fun i => if i = j then C else z i) j fun i hi => (if_neg (show ¬ i = j by omega)).symm]
            rw [e1] at hown1
            have HR : Hid (Row base (some ⟨g, 0, none⟩) (j + 1) cap (fun i => if i = j then C else z i) w1) := by
              refine ⟨hown1, upd_words HZW.out hCb, fun i hi => (if_neg (show ¬ i = j by omega)).trans (HZ0.out i (by omega)), ?_, Nat.le_trans hbs HB1.size⟩
              simp [sizeL]; omega
            have HV2 : Hid (val (fun i => if i = j then C else z i) (j + 1) = val x j * S + b) := by
              show _ = _
              rw [← HV.out]
              simp only [val, if_pos]
              rw [val_congr (y := z) j fun i hi => if_neg (show ¬ i = j by omega)]
            have HB2 : Hid (Below base w w1) := HU.out.trans HB1
            clear hown1 hgrow HB1 e1
            go_wp2
            go_ret
            exact ⟨_, j + 1, cap, _, rfl, by omega, HR.out, by rw [HV2.out, hSb.out.1, ← hSb.out.2], HB2.out⟩
end Go.Proofs.YtplocajjfoiklaaGreatDoor

namespace Go.Proofs.YtplocajjfoiklaaGreatDoor
open Go.RowKit

theorem digB_of {s : ByteArray} : ∀ (n : Nat), (∀ k, k < n → 48 ≤ sb s k ∧ sb s k ≤ 57) → digB s n = true
  | 0, _ => rfl
  | n + 1, h => by
    unfold digB
    rw [digB_of n fun k hk => h k (by omega)]
    simp; exact h n (by omega)
theorem numV_app {s u : ByteArray} (p : Nat) : ∀ L, (∀ i, i < L → sb u i = sb s (p + i)) → numV s (p + L) = numV s p * 10 ^ L + numV u L
  | 0, _ => by simp [numV]
  | L + 1, h => by
    have e := numV_app p L fun i hi => h i (by omega)
    rw [← Nat.add_assoc]
    simp only [numV]
    rw [e, h L (by omega), Int.pow_succ]
    grind
theorem ext_size {u : ByteArray} {a b : Nat} (hb : b ≤ u.size) : (u.extract a b).size = b - a := by
  rw [ByteArray.size_extract]; omega
theorem ext_sb {u : ByteArray} {a b i : Nat} (hb : b ≤ u.size) (hi : a + i < b) : sb (u.extract a b) i = sb u (a + i) := by
  unfold sb
  rw [dif_pos (show i < (u.extract a b).size by rw [ext_size hb]; omega), dif_pos (show a + i < u.size by omega)]
  simp [ByteArray.getElem_extract]

set_option maxHeartbeats 1000000 in
theorem nread_ok (s : ByteArray) (w : World) (hd : isDigB s = true) (hl : s.size ≤ 12000) :
    Calls Tryz.prog 191 #[.string s] w fun e w' => ∃ o k cap z, e = .returned (.tuple #[.slice o k cap, .int .i64 0]) ∧ k ≤ 12000 ∧ Num w' o k cap z ∧ val z k = numV s s.size ∧ sizeL z k = k ∧ Below w.heap.size w w' := by
  have ha := allDigits_any s w (by omega)
  rw [hd] at ha
  have hl' : (s.size : Int) ≤ 12000 := by omega
  have hdig : ∀ k, k < s.size → 48 ≤ sb s k ∧ sb s k ≤ 57 := by
    unfold isDigB at hd; simp at hd; exact digB_at s.size hd.1
  have HDG : Hid (∀ k, k < s.size → 48 ≤ sb s k ∧ sb s k ≤ 57) := hdig
  clear hd hdig
  go_enter Tryz.func191, Tryz.ntmps191
  go_wp2_with (go_at_call 222; refine ha.mono ?_; rintro e w' ⟨rfl, rfl⟩)
  clear ha
  go_loopw [0, 4, 5] (fun t0 t4 u5 wr => ∃ (p n c : Nat) (u : ByteArray) (ao : Option Addr) (z : Nat → Int), p ≤ s.size ∧ t0 = .string u ∧ t4 = .slice ao n c ∧ n ≤ p ∧ u.size = s.size - p ∧ (∀ i, i < u.size → sb u i = sb s (p + i)) ∧ Row w.heap.size ao n c z wr ∧ val z n = numV s p ∧ Below w.heap.size w wr) (fun t0 _ _ _ => match t0 with | .string u => u.size | _ => 0)
  case atStart => exact ⟨0, 0, 0, s, none, fun _ => 0, Nat.zero_le _, rfl, rfl, Nat.le_refl _, rfl, fun i _ => by rw [Nat.zero_add], ⟨World.ownsRow_nil _ _ _ _, fun _ => (by decide : (0 : Int) ≤ 0 ∧ (0 : Int) ≤ 18446744073709551615), fun _ _ => rfl, rfl, Nat.le_refl _⟩, rfl, Below.refl _ _⟩
  case round =>
    obtain ⟨p, n, c, u, ao, z, hp, rfl, rfl, hnp, hus, hub, hR, hv, hB⟩ := hrel
    by_cases h0 : u.size = 0
    · have e1 : p = s.size := by omega
      have hu0 : (u.size : Int) = 0 := by omega
      have HN : Hid (Num wr ao n c z) := num_of_owns' hR.2.1 hR.2.2.1 hR.1
      have HV : Hid (val z n = numV s s.size) := by show _ = _; rw [hv, e1]
      have HT : Hid (sizeL z n = n) := hR.2.2.2.1
      have HB : Hid (Below w.heap.size w wr) := hB
      clear hR hv hB hub
      go_wp2
      go_ret2
      exact ⟨ao, n, c, z, rfl, by omega, HN.out, HV.out, HT.out, HB.out⟩
    · have hu0 : (0 : Int) < u.size := by omega
      obtain ⟨L, hL⟩ : ∃ L : Nat, (if u.size ≤ 19 then u.size else 19) = L := ⟨_, rfl⟩
      have hL1 : 0 < L ∧ L ≤ 19 ∧ L ≤ u.size := by split at hL <;> omega
      have hmin : min (u.size : Int) 19 = L := by split at hL <;> omega
      have hLu : (L : Int) ≤ u.size := by omega
      have es : (u.extract 0 L).size = L := by rw [ext_size hL1.2.2]; omega
      have es2 : (u.extract L u.size).size = u.size - L := ext_size (Nat.le_refl _)
      have eb : ∀ i, i < L → sb (u.extract 0 L) i = sb s (p + i) := fun i hi => by rw [ext_sb hL1.2.2 (by omega), Nat.zero_add, hub i (by omega)]
      have eb2 : Hid (∀ i, i < (u.extract L u.size).size → sb (u.extract L u.size) i = sb s (p + L + i)) := fun i hi => by
        rw [es2] at hi
        rw [ext_sb (Nat.le_refl _) (by omega), hub (L + i) (by omega), Nat.add_assoc]
      have hap := appendPart_any w.heap.size ao n c z (u.extract 0 L) wr (by omega) (by omega) (by rw [es]; exact digB_of L fun k hk => by rw [eb k hk]; exact HDG.out (p + k) (by omega)) hR
      rw [es] at hap
      have HV : Hid (val z n * 10 ^ L + numV (u.extract 0 L) L = numV s (p + L)) := by show _ = _; rw [numV_app p L eb, hv]
      have HB : Hid (Below w.heap.size w wr) := hB
      have HE2 : Hid ((u.extract L u.size).size = s.size - (p + L)) := by show _ = _; rw [es2]; omega
      have HE3 : Hid ((u.extract L u.size).size < u.size) := by show _ < _; rw [es2]; omega
      have hpl : p + L ≤ s.size := by omega
      have hnk : n + 1 ≤ p + L := by omega
      clear hR hv hB hub es es2 eb hL hus
      go_wp2_with (go_at_call 223; refine hap.mono ?_; rintro e w1 ⟨o1, k1, p1, z1, rfl, hk1, hR1, hv1, hB1⟩; clear hap)
      go_roundw
      case rel => exact ⟨p + L, k1, p1, _, o1, z1, hpl, rfl, rfl, by omega, HE2.out, eb2.out, hR1, by rw [hv1, HV.out], HB.out.trans hB1⟩
      case measure => exact HE3.out
end Go.Proofs.YtplocajjfoiklaaGreatDoor

namespace Go.Proofs.YtplocajjfoiklaaGreatDoor
open Go.RowKit

theorem texT_len {c : Int} {s g : Bool} {d : List UInt8} {e : Int} (hd : d.length ≤ 4000) (he : -9223372036854775808 ≤ e ∧ e ≤ 9223372036854775807) : (texT c s g d e).length ≤ 4100 := by
  have hi := Lib.itoa_length_le e he.1 he.2
  have h1 : (bodT c g d e).length ≤ 4050 := by
    unfold bodT
    split
    · simp
    · split
      · unfold nanT
        simp only [List.length_append, List.length_cons]
        split <;> split <;> simp <;> omega
      · unfold finT dgT exT
        simp only [List.length_append]
        split <;> split <;> simp <;> omega
  unfold texT
  rw [List.length_append]
  split <;> simp <;> omega
set_option maxHeartbeats 2000000 in
theorem join_ok (c : Int) (s g : Bool) (d : List UInt8) (e : Int) (w : World) (hd : d.length ≤ 4000)  (T : List UInt8)
    (c24 : ∀ W, Below w.heap.size w W → Calls Tryz.prog 144 #[PV c s g d e] W fun x w' => x = .returned (.string (B T)) ∧ Below W.heap.size W w')
    (c9 : ∀ W, Calls Tryz.prog 36 #[.string (B T)] W fun x w' => x = .returned (.tuple #[PV c s g d e, .int .i64 0]) ∧ Below W.heap.size W w') :
    Calls Tryz.prog 88 #[PV c s g d e] w fun x w' => x = .returned (.tuple #[.string (B T), .int .i64 0]) ∧ Below w.heap.size w w' := by
  have htl := B_toList
  have hsz := B_size d
  have hdi : (d.length : Int) ≤ 4000 := by omega
  unfold PV at c24 c9 ⊢
  have hsm := gcell_set_map
  go_enter Tryz.func88, Tryz.ntmps88
  go_wp2_with (first | (go_at_call 144; refine (c24 _ bgo).mono ?_; rintro x w1 ⟨rfl, hb1⟩; obtain ⟨hc1, hf1⟩ := gbcell hb1; have hz1_0 : w.heap.size < w1.heap.size := glt_below hb1 ltg; have hl1_0 := Nat.le_of_lt hz1_0; have hA1 := gbnext (w0 := w) bgo hb1; have hs1 := hA1.size; clear hb1) | (go_at_call 36; refine (c9 _).mono ?_; rintro x w2 ⟨rfl, hb2⟩; obtain ⟨hc2, hf2⟩ := gbcell hb2; have hz2_0 : w.heap.size < w2.heap.size := glt_below hb2 ltg; have hl2_0 := Nat.le_of_lt hz2_0; have hA2 := gbnext (w0 := w) bgo hb2; have hs2 := hA2.size; clear hb2))
  go_ret2
  exact ⟨rfl, bgo⟩
/-- does Join take the parts? -/
def jnP (p : Prt) : Prop := p.dig.length ≤ 4000 ∧ cutP (texT p.cls p.sg p.sn p.dig p.ex) = some p
theorem cutE_some {l : List UInt8} {p : Prt} (h : cutP l = some p) : cutE l = 0 ∧ cutV l = p := by
  unfold cutE cutV
  have hl : ¬ 4000 < l.length := by
    intro h2; unfold cutP at h; rw [if_pos h2] at h; cases h
  rw [if_neg hl, h]; exact ⟨rfl, rfl⟩
theorem cutE_zero {l : List UInt8} (h : cutE l = 0) : cutP l = some (cutV l) := by
  unfold cutE at h
  split at h
  · cases h
  · split at h
    · rename_i h2
      obtain ⟨p, hp⟩ := Option.isSome_iff_exists.1 h2
      unfold cutV; rw [hp]; rfl
    · cases h
def Tb10 (w : World) : Prop := Lib.TabIs Tryz.prog w "internal/strconv.uint64pow10" .u64 Lib.pow10Tab
theorem Tb10.next {w w' : World} (h : Tb10 w) (hb : Below w.heap.size w w') : Tb10 w' := Lib.tabBelow_of_tabIs h w' hb
theorem join_y (p : Prt) (w : World) (hT : Tb10 w) (he : -9223372036854775808 ≤ p.ex ∧ p.ex ≤ 9223372036854775807) (h : jnP p) :
    Calls Tryz.prog 88 #[p.v] w fun x w' => x = .returned (.tuple #[.string (B (texT p.cls p.sg p.sn p.dig p.ex)), .int .i64 0]) ∧ Below w.heap.size w w' := by
  obtain ⟨e1, e2⟩ := cutE_some h.2
  have c9 := fun W => cut_any (texT p.cls p.sg p.sn p.dig p.ex) W (by have := texT_len (c := p.cls) (s := p.sg) (g := p.sn) h.1 he; omega)
  rw [e1, e2] at c9
  exact join_ok _ _ _ _ _ w h.1 _ (fun W hW => text_any _ _ _ _ _ W (by have := h.1; omega) he (hT.next hW)) c9
end Go.Proofs.YtplocajjfoiklaaGreatDoor

namespace Go.Proofs.YtplocajjfoiklaaGreatDoor
open Go.RowKit

theorem dig_of (k : Nat) (h : k < 10) : dg (UInt8.ofNat (48 + k)) = true ∧ ((UInt8.ofNat (48 + k)).toNat : Int) = 48 + k := by
  have : (UInt8.ofNat (48 + k)).toNat = 48 + k := by
    rw [UInt8.toNat_ofNat']; omega
  refine ⟨?_, by omega⟩
  unfold dg; rw [this]; simp; omega
theorem dec_dg (u : Nat) : (Lib.decDigits u).all dg = true := by
  induction u using Nat.strongRecOn with
  | ind u ih =>
    rw [Lib.decDigits]
    split
    · rename_i h
      simp only [List.all_cons, List.all_nil, Bool.and_true]
      exact (dig_of u h).1
    · rename_i h
      rw [List.all_append, ih (u / 10) (by omega)]
      simp only [List.all_cons, List.all_nil, Bool.and_true, Bool.true_and]
      exact (dig_of (u % 10) (by omega)).1
theorem dec_nv (u : Nat) : nv (Lib.decDigits u) = u := by
  induction u using Nat.strongRecOn with
  | ind u ih =>
    rw [Lib.decDigits]
    split
    · rename_i h
      rw [gnv_one, (dig_of u h).2]; omega
    · rename_i h
      rw [nv_app, ih (u / 10) (by omega), gnv_one, (dig_of (u % 10) (by omega)).2]
      simp
      omega
theorem dec_ne (u : Nat) : Lib.decDigits u ≠ [] := by
  rw [Lib.decDigits]
  split
  · simp
  · simp
theorem dec_isd (u : Nat) : isd (Lib.decDigits u) = true := by
  unfold isd
  rw [dec_dg]
  simp [dec_ne u]
/-- no sign ahead of a digit -/
theorem sg_cons {c : UInt8} {r : List UInt8} (h : (c.toNat : Int) ≠ 45 ∧ (c.toNat : Int) ≠ 43) : gsgB (c :: r) = false ∧ sgR (c :: r) = c :: r := by
  refine ⟨by simp only [gsgB]; exact decide_eq_false h.1, ?_⟩
  simp only [sgR]
  rw [if_neg (by omega)]
theorem dg_nat {c : UInt8} (h : dg c = true) : 48 ≤ (c.toNat : Int) ∧ (c.toNat : Int) ≤ 57 := by
  unfold dg at h
  have := of_decide_eq_true h
  omega
theorem sg_all {l : List UInt8} (h : l.all dg = true) : gsgB l = false ∧ sgR l = l := by
  cases l with
  | nil => exact ⟨rfl, rfl⟩
  | cons c r =>
    rw [List.all_cons, Bool.and_eq_true] at h
    have := dg_nat h.1
    exact sg_cons ⟨by omega, by omega⟩
theorem exT_cut (e : Int) (h : -1000000000 ≤ e ∧ e ≤ 1000000000) : exB (exT e) = true ∧ exI (exT e) = e ∧ Lib.hasPrefix (exT e) [46] = false ∧ dgs (exT e) = [] ∧ rst (exT e) = exT e := by
  unfold exT
  split
  · rename_i h0; subst h0; exact ⟨rfl, rfl, rfl, rfl, rfl⟩
  · rename_i h0
    have hi : isd (sgR (Lib.itoa e)) = true ∧ exS (Lib.itoa e) = e := by
      unfold Lib.itoa
      split
      · rename_i h1
        have e1 : gsgB (45 :: Lib.decDigits e.natAbs) = true := rfl
        have e2 : sgR (45 :: Lib.decDigits e.natAbs) = Lib.decDigits e.natAbs := rfl
        unfold exS
        rw [e1, e2, if_pos rfl]
        refine ⟨dec_isd _, ?_⟩
        unfold vc; rw [dec_nv]; omega
      · rename_i h1
        obtain ⟨e1, e2⟩ := sg_all (dec_dg e.toNat)
        unfold exS
        rw [e1, e2]
        refine ⟨dec_isd _, ?_⟩
        rw [if_neg (by decide)]
        unfold vc; rw [dec_nv]; omega
    have hx : exB (101 :: Lib.itoa e) = true := by
      simp only [exB]
      rw [hi.1]; rfl
    refine ⟨hx, ?_, rfl, rfl, rfl⟩
    simp only [exI]
    rw [if_pos hx]
    exact hi.2
theorem dgs_app2 {l m : List UInt8} (h : l.all dg = true) (hm : dgs m = []) : dgs (l ++ m) = l ∧ rst (l ++ m) = m := by
  have h1 : dgs (l ++ m) = l := by
    induction l with
    | nil => exact hm
    | cons c r ih =>
      rw [List.all_cons, Bool.and_eq_true] at h
      unfold dgs at ih ⊢
      rw [List.cons_append, List.takeWhile_cons, if_pos h.1, ih h.2]
  refine ⟨h1, ?_⟩
  have e := dgs_rst (l ++ m)
  rw [h1] at e
  exact List.append_cancel_left e
theorem fin_cut (T : List UInt8) (e : Int) (hT : T.all dg = true) (hn : T ≠ []) (h : -1000000000 ≤ e ∧ e ≤ 1000000000) : finB (T ++ exT e) = true ∧ finD (T ++ exT e) = bar T ∧ finE (T ++ exT e) = e := by
  obtain ⟨h1, h2, h3, h4, h5⟩ := exT_cut e h
  obtain ⟨d1, d2⟩ := dgs_app2 hT h4
  have f1 : frac (T ++ exT e) = [] := by unfold frac; rw [d2, h3]; rfl
  have f2 : behind (T ++ exT e) = exT e := by unfold behind; rw [d2, h3]; rfl
  refine ⟨?_, ?_, ?_⟩
  · unfold finB; rw [f1, f2, h1, d1]
    cases T with
    | nil => exact absurd rfl hn
    | cons c r => rfl
  · unfold finD; rw [f1, d1, List.append_nil]
  · unfold finE; rw [f1, f2, h2]; unfold clampE; simp; omega
/-- good digits: none, or digits with no nought ahead -/
def gdD (d : List UInt8) : Prop := d = [] ∨ (isd d = true ∧ by_ d 0 ≠ 48)
theorem gdD_all {d : List UInt8} (h : gdD d) : d.all dg = true := by
  rcases h with rfl | ⟨h, _⟩
  · rfl
  · exact isd_all h
theorem gdD_bar {d : List UInt8} (h : gdD d) : bar d = d := by
  cases d with
  | nil => rfl
  | cons c r =>
    rcases h with h | ⟨_, h⟩
    · cases h
    · rw [by_zero] at h
      rw [bar_cons, if_neg h]
theorem bar_gdD {l : List UInt8} (h : l.all dg = true) : gdD (bar l) := by
  have ha := bar_all h
  cases hb : bar l with
  | nil => exact Or.inl rfl
  | cons c r =>
    rw [hb] at ha
    refine Or.inr ⟨?_, ?_⟩
    · unfold isd; rw [ha]; rfl
    · rw [by_zero]; exact bar_head hb
theorem gdD_dgT {d : List UInt8} (h : gdD d) : (dgT d).all dg = true ∧ dgT d ≠ [] ∧ bar (dgT d) = d := by
  unfold dgT
  split
  · rename_i h0; subst h0; exact ⟨rfl, by simp, rfl⟩
  · rename_i h0; exact ⟨gdD_all h, h0, gdD_bar h⟩
/-- what the document takes -/
def gdP (p : Prt) : Prop := gdD p.dig ∧ ((p.cls = 1 ∧ p.sn = false ∧ (-1000000000 ≤ p.ex ∧ p.ex ≤ 1000000000) ∧ (texT p.cls p.sg p.sn p.dig p.ex).length ≤ 4000) ∨ (p.cls = 2 ∧ p.sn = false ∧ p.dig = [] ∧ p.ex = 0) ∨ (p.cls = 3 ∧ p.ex = 0 ∧ (texT p.cls p.sg p.sn p.dig p.ex).length ≤ 4000))
theorem sig_app (s : Bool) (c : UInt8) (r : List UInt8) (h : (c.toNat : Int) ≠ 45 ∧ (c.toNat : Int) ≠ 43) : gsgB ((if s then [45] else []) ++ (c :: r)) = s ∧ sgR ((if s then [45] else []) ++ (c :: r)) = c :: r := by
  cases s
  · exact sg_cons h
  · exact ⟨rfl, rfl⟩
theorem sml_dg {d : List UInt8} (h : d.all dg = true) : sml d = d := by
  induction d with
  | nil => rfl
  | cons c r ih =>
    rw [List.all_cons, Bool.and_eq_true] at h
    have := dg_nat h.1
    show sm c :: sml r = c :: r
    rw [ih h.2]
    unfold sm
    rw [if_neg (by omega)]
theorem nan_pa {d : List UInt8} (h : gdD d) : sml (if d = [] then [] else 40 :: (d ++ [41])) = (if d = [] then [] else 40 :: (d ++ [41])) ∧ paB (if d = [] then [] else 40 :: (d ++ [41])) = true ∧ paD (if d = [] then [] else 40 :: (d ++ [41])) = d := by
  by_cases h0 : d = []
  · rw [if_pos h0]; subst h0; exact ⟨rfl, rfl, rfl⟩
  · rw [if_neg h0]
    have e1 : Lib.trimPrefix (40 :: (d ++ [41])) [40] = d ++ [41] := rfl
    have e2 : Lib.hasPrefix (40 :: (d ++ [41])) [40] = true := rfl
    obtain ⟨d1, d2⟩ := dgs_app2 (m := [41]) (gdD_all h) rfl
    refine ⟨?_, ?_, ?_⟩
    · have := sml_dg (gdD_all h)
      unfold sml at this ⊢
      rw [List.map_cons, List.map_append, this]; rfl
    · unfold paB; rw [e1, e2, d1, d2]
      cases d with
      | nil => exact absurd rfl h0
      | cons c r => rfl
    · unfold paD; rw [e1, e2, d1]; rfl
theorem nan_cut (g : Bool) {d : List UInt8} (h : gdD d) : finB (nanT g d) = false ∧ infB (sml (nanT g d)) = false ∧ nanB (sml (nanT g d)) = true ∧ Lib.hasPrefix (sml (nanT g d)) [115] = g ∧ paD (nanR (sml (nanT g d))) = d := by
  obtain ⟨p1, p2, p3⟩ := nan_pa h
  unfold nanT
  generalize (if d = [] then [] else 40 :: (d ++ [41]) : List UInt8) = X at p1 p2 p3 ⊢
  cases g
  · have e : sml ((if false = true then [115] else []) ++ ([110, 97, 110] ++ X)) = [110, 97, 110] ++ X := by
      show 110 :: 97 :: 110 :: sml X = _
      rw [p1]; rfl
    rw [e]
    refine ⟨rfl, rfl, ?_, rfl, ?_⟩
    · show (true && paB X) = true
      rw [p2]; rfl
    · exact p3
  · have e : sml ((if true = true then [115] else []) ++ ([110, 97, 110] ++ X)) = 115 :: ([110, 97, 110] ++ X) := by
      show 115 :: 110 :: 97 :: 110 :: sml X = _
      rw [p1]; rfl
    rw [e]
    refine ⟨rfl, rfl, ?_, rfl, ?_⟩
    · show (true && paB X) = true
      rw [p2]; rfl
    · exact p3
theorem jn_of_gd {p : Prt} (h : gdP p) : jnP p := by
  obtain ⟨c, s, g, d, e⟩ := p
  obtain ⟨hd, h⟩ := h
  dsimp only at hd h
  rcases h with ⟨rfl, rfl, he, hl⟩ | ⟨rfl, rfl, rfl, rfl⟩ | ⟨rfl, rfl, hl⟩
  · obtain ⟨t1, t2, t3⟩ := gdD_dgT hd
    have hb : bodT 1 false d e = dgT d ++ exT e := rfl
    have hdl : d.length ≤ (dgT d).length := by
      unfold dgT; split
      · rename_i h0; subst h0; simp
      · exact Nat.le_refl _
    have ht : texT 1 s false d e = (if s then [45] else []) ++ (dgT d ++ exT e) := rfl
    refine ⟨?_, ?_⟩
    · rw [ht] at hl
      simp only [List.length_append] at hl
      show d.length ≤ 4000
      omega
    · unfold cutP
      rw [if_neg (show ¬ 4000 < (texT 1 s false d e).length by omega)]
      show bodP (gsgB (texT 1 s false d e)) (sgR (texT 1 s false d e)) = _
      obtain ⟨f1, f2, f3⟩ := fin_cut (dgT d) e t1 t2 he
      have hs : gsgB (texT 1 s false d e) = s ∧ sgR (texT 1 s false d e) = dgT d ++ exT e := by
        rw [ht]
        revert t1 t2
        generalize dgT d = T
        intro t1 t2
        cases T with
        | nil => exact absurd rfl t2
        | cons c r =>
          rw [List.all_cons, Bool.and_eq_true] at t1
          have := dg_nat t1.1
          exact sig_app s c _ ⟨by omega, by omega⟩
      rw [hs.1, hs.2]
      unfold bodP
      rw [if_pos f1, f2, f3, t3]
  · refine ⟨by simp, ?_⟩
    cases s <;> rfl
  · have hn := nan_cut g hd
    have ht : texT 3 s g d 0 = (if s then [45] else []) ++ nanT g d := rfl
    refine ⟨?_, ?_⟩
    · rw [ht] at hl
      unfold nanT at hl
      simp only [List.length_append] at hl
      show d.length ≤ 4000
      by_cases h0 : d = []
      · subst h0; simp
      · rw [if_neg h0] at hl
        simp only [List.length_cons, List.length_append] at hl
        omega
    · unfold cutP
      rw [if_neg (show ¬ 4000 < (texT 3 s g d 0).length by omega)]
      show bodP (gsgB (texT 3 s g d 0)) (sgR (texT 3 s g d 0)) = _
      have hs : gsgB (texT 3 s g d 0) = s ∧ sgR (texT 3 s g d 0) = nanT g d := by
        rw [ht]
        cases g
        · exact sig_app s 110 _ ⟨by decide, by decide⟩
        · exact sig_app s 115 _ ⟨by decide, by decide⟩
      obtain ⟨n1, n2, n3, n4, n5⟩ := hn
      rw [hs.1, hs.2]
      unfold bodP
      rw [if_neg (by rw [n1]; decide), if_neg (by rw [n2]; decide), if_pos n3, n4, n5, gdD_bar hd]
theorem cut_good {l : List UInt8} {p : Prt} (h : cutP l = some p) : gdD p.dig ∧ ((p.cls = 1 ∧ p.sn = false ∧ (-1000000000 ≤ p.ex ∧ p.ex ≤ 1000000000)) ∨ (p.cls = 2 ∧ p.sn = false ∧ p.dig = [] ∧ p.ex = 0) ∨ (p.cls = 3 ∧ p.ex = 0)) := by
  unfold cutP at h
  split at h
  · cases h
  · unfold bodP at h
    generalize sgR l = r at h
    split at h
    · injection h with h; subst h
      refine ⟨bar_gdD ?_, Or.inl ⟨rfl, rfl, ?_⟩⟩
      · rw [List.all_append, all_dgs]
        unfold frac
        split
        · rw [all_dgs]; rfl
        · rfl
      · show -1000000000 ≤ finE r ∧ finE r ≤ 1000000000
        unfold finE clampE
        omega
    · split at h
      · injection h with h; subst h
        exact ⟨Or.inl rfl, Or.inr (Or.inl ⟨rfl, rfl, rfl, rfl⟩)⟩
      · split at h
        · injection h with h; subst h
          refine ⟨bar_gdD ?_, Or.inr (Or.inr ⟨rfl, rfl⟩)⟩
          unfold paD
          split
          · rw [all_dgs]
          · rfl
        · cases h
theorem gd_of_jn {p : Prt} (h : jnP p) : gdP p := by
  obtain ⟨hd, h⟩ := h
  have hl : (texT p.cls p.sg p.sn p.dig p.ex).length ≤ 4000 := by
    unfold cutP at h
    split at h
    · cases h
    · omega
  obtain ⟨g1, g2⟩ := cut_good h
  refine ⟨g1, ?_⟩
  rcases g2 with ⟨a, b, c⟩ | g2 | ⟨a, b⟩
  · exact Or.inl ⟨a, b, c, hl⟩
  · exact Or.inr (Or.inl g2)
  · exact Or.inr (Or.inr ⟨a, b, hl⟩)
end Go.Proofs.YtplocajjfoiklaaGreatDoor
