/-
  Texts that the proof leans on.
-/
import Derived.Test.YtpemdcnneabbfaaGreatDoorJ23
set_option linter.unusedVariables false
set_option linter.unusedSimpArgs false
set_option linter.unusedSectionVars false
set_option maxRecDepth 20000
namespace Go.Proofs.YtpemdcnneabbfaaGreatDoor
open Go.RowKit
section
/-- byte i of a text -/
def sb (s : ByteArray) (i : Nat) : Int := if h : i < s.size then ((s[i]'h).toNat : Int) else 0
theorem sb_lt {s : ByteArray} {i : Nat} (h : i < s.size) : ((s[i]'h).toNat : Int) = sb s i := by unfold sb; rw [dif_pos h]
theorem sb_bd (s : ByteArray) (i : Nat) : 0 ≤ sb s i ∧ sb s i ≤ 255 := by
  unfold sb; split
  · rename_i h; have := (s[i]'h).toNat_lt; omega
  · omega
/-- are the first k bytes digits? -/
def digB (s : ByteArray) : Nat → Bool
  | 0 => true
  | k + 1 => digB s k && decide (48 ≤ sb s k ∧ sb s k ≤ 57)
def isDigB (s : ByteArray) : Bool := digB s s.size && decide (0 < s.size)
theorem digB_false {s : ByteArray} : ∀ (n : Nat) {k : Nat}, k < n → ¬ (48 ≤ sb s k ∧ sb s k ≤ 57) → digB s n = false
  | 0, k, h, _ => by omega
  | n + 1, k, h, hb => by
    unfold digB
    by_cases e : k = n
    · subst e; simp [hb]
    · rw [digB_false n (by omega) hb]; rfl

set_option maxHeartbeats 1000000 in
theorem allDigits_any (s : ByteArray) (w : World) (hs : s.size < 4294967296) :
    Calls Tryz.prog 143 #[.string s] w fun e w' => e = .returned (.bool (isDigB s)) ∧ w = w' := by
  go_enter Tryz.func143, Tryz.ntmps143
  go_wp2
  go_loop [3, 6] (fun u3 i => ∃ k : Nat, k ≤ s.size ∧ i = .int .i64 k ∧ digB s k = true) (fun _ i => s.size - (intOf i).toNat)
  case atStart => exact ⟨0, Nat.zero_le _, rfl, rfl⟩
  case round =>
    obtain ⟨k, hk, rfl, hd⟩ := hrel
    by_cases hlt : k < s.size
    · have hki : (k : Int) < s.size := by omega
      have hsb := sb_lt hlt
      have hbd := sb_bd s k
      by_cases h1 : sb s k < 48
      · have HF : Hid (isDigB s = false) := by show _ = _; unfold isDigB; rw [digB_false s.size hlt (by omega)]; rfl
        go_wp2
        go_ret
        exact ⟨by rw [HF.out]; rfl, rfl⟩
      · by_cases h2 : 57 < sb s k
        · have HF : Hid (isDigB s = false) := by show _ = _; unfold isDigB; rw [digB_false s.size hlt (by omega)]; rfl
          go_wp2
          go_ret
          exact ⟨by rw [HF.out]; rfl, rfl⟩
        · have HD : Hid (digB s (k + 1) = true) := by show _ = _; unfold digB; rw [hd]; simp; omega
          clear hd
          go_wp2
          go_round
          case rel => exact ⟨k + 1, by omega, by go_num, HD.out⟩
          case measure => simp [intOf]; omega
    · obtain rfl : k = s.size := by omega
      have HF : Hid (isDigB s = decide (0 < s.size)) := by show _ = _; unfold isDigB; rw [hd]; simp
      clear hd
      go_wp2
      go_ret
      exact ⟨by rw [HF.out]; rfl, rfl⟩
end
section
/-- the number that the first k bytes write -/
def numV (s : ByteArray) : Nat → Int
  | 0 => 0
  | k + 1 => numV s k * 10 + (sb s k - 48)
theorem digB_at {s : ByteArray} : ∀ (n : Nat), digB s n = true → ∀ k, k < n → 48 ≤ sb s k ∧ sb s k ≤ 57
  | 0, _, k, h => by omega
  | n + 1, hd, k, h => by
    unfold digB at hd
    simp at hd
    by_cases e : k = n
    · subst e; exact hd.2
    · exact digB_at n hd.1 k (by omega)
theorem numV_bd {s : ByteArray} : ∀ (n : Nat), digB s n = true → 0 ≤ numV s n ∧ numV s n < 10 ^ n
  | 0, _ => by simp [numV]
  | n + 1, hd => by
    have h1 := digB_at (n + 1) hd n (by omega)
    have h2 := numV_bd n (by unfold digB at hd; simp at hd; exact hd.1)
    simp only [numV]
    rw [Int.pow_succ]
    omega
theorem p10_le {a b : Nat} (h : a ≤ b) : (10 : Int) ^ a ≤ 10 ^ b := by
  have : (10 : Nat) ^ a ≤ 10 ^ b := Nat.pow_le_pow_right (by decide) h
  exact_mod_cast this
theorem wl_set (z : Nat → Int) (n j : Nat) (l : Int) : (wl z n).set j (.int .u64 l) = wl (fun i => if i = j then l else z i) n := by
  apply List.ext_getElem?
  intro i
  unfold wl
  rw [List.getElem?_set]
  by_cases hi : i < n
  · by_cases e : j = i
    · subst e; simp [hi]
    · simp [hi, e, Ne.symm e]
  · by_cases e : j = i
    · subst e; simp [hi]
    · simp [hi, e]
theorem wl_congr {x y : Nat → Int} (n : Nat) (h : ∀ i, i < n → x i = y i) : wl x n = wl y n := by
  unfold wl
  exact List.map_congr_left fun i hi => by rw [h i (by simpa using hi)]
theorem owns_form {w : World} {base n c : Nat} {ao : Option Addr} {xs : List Value} (h : w.ownsRow base 23 1 (.slice ao n c) n xs) : ∀ q, (Value.slice ao n c).ownBlock = some q → base ≤ q := fun q hq => (h.lt q hq).1
theorem owns_some {w : World} {base n c : Nat} {ao : Option Addr} {xs : List Value} (h : w.ownsRow base 23 1 (.slice ao n c) n xs) (hn : 0 < n) : ∃ g, ao = some ⟨g, 0, none⟩ ∧ base ≤ g := by
  obtain ⟨g, cap, e, hb, _⟩ := h.form hn
  cases e
  exact ⟨g, rfl, hb⟩
theorem wl_at (z : Nat → Int) (n j : Nat) (h : j < n) : (wl z n)[j]? = some (.int .u64 (z j)) := by unfold wl; simp [h]

/-- a number in a row of one's own -/
def Row (base : Nat) (ao : Option Addr) (n c : Nat) (x : Nat → Int) (w : World) : Prop :=
  w.ownsRow base 23 1 (.slice ao n c) n (wl x n) ∧ Words x ∧ (∀ i, n ≤ i → x i = 0) ∧ sizeL x n = n ∧ base ≤ w.heap.size

theorem apn_trim {x z : Nat → Int} {n : Nat} {S b : Int} (hx : Words x) (hz : Words z) (ht : sizeL x n = n) (hS : 1 ≤ S) (hb : 0 ≤ b) (hv : val z n = val x n * S + b) : sizeL z n = n := by
  cases n with
  | zero => rfl
  | succ m =>
    by_cases e : z m = 0
    · exfalso
      have h1 : val z m < val x (m + 1) := val_longer (x := z) hz hx (Nat.lt_succ_self m) ht
      have h2 : val z (m + 1) = val z m := by simp [val, e]
      have h3 := (val_bd hx (m + 1)).1
      have h4 : val x (m + 1) * 1 ≤ val x (m + 1) * S := Int.mul_le_mul_of_nonneg_left hS h3
      omega
    · simp [sizeL, e]

set_option maxRecDepth 20000 in
set_option maxHeartbeats 2000000 in
theorem appendPart_any (base : Nat) (a : Option Addr) (n c : Nat) (x : Nat → Int) (s : ByteArray) (w : World) (hn : n < 100000) (hs : s.size ≤ 19) (hd : digB s s.size = true) (h : Row base a n c x w) :
    Calls Tryz.prog 144 #[.slice a n c, .string s] w fun e w' => ∃ ao k cap z, e = .returned (.slice ao k cap) ∧ k ≤ n + 1 ∧ Row base ao k cap z w' ∧ val z k = val x n * 10 ^ s.size + numV s s.size ∧ Below base w w' := by
  obtain ⟨hown, hx, hx0, hxt, hbase⟩ := h
  have hdig := digB_at s.size hd
  have hnv := numV_bd s.size hd
  have hS19 : (10 : Int) ^ s.size ≤ 10 ^ 19 := p10_le hs
  have HX : Hid (Words x) := hx
  have HX0 : Hid (∀ i, n ≤ i → x i = 0) := hx0
  have HXT : Hid (sizeL x n = n) := hxt
  have HNV : Hid (0 ≤ numV s s.size ∧ numV s s.size < 10 ^ s.size) := hnv
  have HS19 : Hid ((10 : Int) ^ s.size ≤ 10 ^ 19) := hS19
  have HOWN : Hid (w.ownsRow base 23 1 (.slice a n c) n (wl x n)) := hown
  have HD : Hid (digB s s.size = true) := hd
  clear hx hx0 hxt hnv hS19 hown hd
  go_enter Tryz.func144, Tryz.ntmps144
  go_wp2
  go_loop [5, 6, 7, 12] (fun sc be u7 i => ∃ (k : Nat) (S b : Int), k ≤ s.size ∧ i = .int .i64 k ∧ sc = .int .u64 S ∧ be = .int .u64 b ∧ Hid (S = 10 ^ k ∧ b = numV s k) ∧ 0 ≤ b ∧ b < S ∧ S ≤ 10000000000000000000) (fun _ _ _ i => s.size - (intOf i).toNat)
  case atStart => exact ⟨0, 1, 0, Nat.zero_le _, rfl, rfl, rfl, ⟨by simp, rfl⟩, by decide, by decide, by decide⟩
  case round =>
    obtain ⟨k, S, b, hk, rfl, rfl, rfl, hSb, hb0, hbS, hS⟩ := hrel
    by_cases hlt : k < s.size
    · have hki : (k : Int) < s.size := by omega
      have hsb := sb_lt hlt
      have hbd := hdig k hlt
      have hS2 : S ≤ 1000000000000000000 := by
        have := p10_le (show k ≤ 18 by omega)
        rw [← hSb.out.1] at this
        exact this
      have HSB : Hid (S * 10 = 10 ^ (k + 1) ∧ b * 10 + (sb s k - 48) = numV s (k + 1)) := by
        show _ ∧ _
        obtain ⟨e1, e2⟩ := hSb.out
        exact ⟨by rw [e1, Int.pow_succ], by rw [e2]; rfl⟩
      clear hdig hSb
      go_wp2
      go_round
      case rel => exact ⟨k + 1, S * 10, b * 10 + (sb s k - 48), by omega, by go_num, by go_num, by go_num, HSB.out, by omega, by omega, by omega⟩
      case measure => simp [intOf]; omega
    · obtain rfl : k = s.size := by omega
      clear hdig hlt
      clear HNV HS19 HD
      go_wp2
      go_loopw [6, 8, 9, 28, 33] (fun be u8 u9 i u33 wr => ∃ (j : Nat) (C : Int) (z : Nat → Int), j ≤ n ∧ i = .int .i64 j ∧ be = .int .u64 C ∧ (0 ≤ C ∧ C ≤ 18446744073709551615) ∧ wr.ownsRow base 23 1 (.slice a n c) n (wl z n) ∧ Words z ∧ Hid (val z n + C * 18446744073709551616 ^ j = val x j * S + b + (val x n - val x j)) ∧ (∀ i, j ≤ i → z i = x i) ∧ Below base w wr) (fun _ _ _ i _ _ => n - (intOf i).toNat)
      case atStart => exact ⟨0, b, x, Nat.zero_le _, rfl, rfl, by omega, HOWN.out, HX.out, by show _ = _; simp [val]; omega, fun _ _ => rfl, Below.refl _ _⟩
      case round =>
        obtain ⟨j, C, z, hj, rfl, rfl, hCb, hO, hzw, hv, hzx, hU⟩ := hrel
        by_cases hlt : j < n
        · have hji : (j : Int) < n := by omega
          obtain ⟨g, rfl, hbg⟩ := owns_some hO (by omega)
          have hcj := (hO.cellAt j (by omega)).trans (wl_at z n j hlt)
          have hfj := hO.frozenAt j
          have hst := fun l => (hO.stored j (.int .u64 l))
          have hma := fun w => mulAdd_any (z j) S 0 C w (hzw j) (by omega) (by decide) hCb
          have HST : Hid (∀ l, (wr.setCell ⟨g, j, none⟩ (.int .u64 l)).ownsRow base 23 1 (.slice (some ⟨g, 0, none⟩) n c) n ((wl z n).set j (.int .u64 l)) ∧ wr.grownBy (wr.setCell ⟨g, j, none⟩ (.int .u64 l)) (some g)) := hst
          have HU : Hid (Below base w wr) := hU
          have HZW : Hid (Words z) := hzw
          have HZX : Hid (∀ i, j ≤ i → z i = x i) := hzx
          clear hO hU hzw hzx hst
          go_wp2_with (go_at_call 146; refine (hma _).mono ?_; rintro e w1 ⟨l, hi, rfl, hlh, hlb, hhb, rfl⟩)
          go_roundw
          case rel =>
            refine ⟨j + 1, hi, fun i => if i = j then l else z i, by omega, by go_num, rfl, hhb, ?_, upd_words HZW.out hlb, ?_, ?_, HU.out.grown (HST.out l).2 (Nat.le_trans hbase HU.out.size) (fun q hq => by cases hq; exact hbg)⟩
            · rw [← wl_set]; exact (HST.out l).1
            · show _ = _
              rw [val_set z j l n (by omega)]
              have e1 := hv.out
              have e3 := HZX.out j (Nat.le_refl _)
              rw [e3] at hlh ⊢
              simp only [val]
              rw [Int.pow_succ]
              generalize (18446744073709551616 : Int) ^ j = P at *
              have e2 : l * P + hi * (P * 18446744073709551616) = (x j * S + 0 + C) * P := by rw [← hlh]; grind
              grind
            · intro i hi2
              exact (if_neg (show ¬ i = j by omega)).trans (HZX.out i (by omega))
          case measure => simp [intOf]; omega
        · obtain rfl : j = n := by omega
          have hv' : val z j + C * 18446744073709551616 ^ j = val x j * S + b := by have := hv.out; omega
          have hz0 : ∀ i, j ≤ i → z i = 0 := fun i hi => (hzx i hi).trans (HX0.out i hi)
          by_cases hC : C = 0
          · subst hC
            have hv2 : val z j = val x j * S + b := by rw [← hv']; simp
            have HR : Hid (Row base a j c z wr) := ⟨hO, hzw, hz0, apn_trim HX.out hzw HXT.out (by omega) hb0 hv2, Nat.le_trans hbase hU.size⟩
            have HV : Hid (val z j = val x j * S + b) := hv2
            have HU : Hid (Below base w wr) := hU
            clear hO hU hzw hzx hz0 hv hv' hv2
            go_wp2
            go_ret
            exact ⟨a, j, c, z, rfl, by omega, HR.out, by rw [HV.out, hSb.out.1, ← hSb.out.2], HU.out⟩
          · have hC0 : 0 < C := by omega
            obtain ⟨i0, hi, hz00, hz1, hz2⟩ := info_parts Tryz.info23
            have HOWN2 : (wr.alloc (.cells #[.int .u64 C] 23)).ownsRow base 23 1 (.slice a j c) j (wl z j) := hO.alloc _
            have HNEWS : ∀ (q : Nat) (u : Value), [Value.int .u64 C][q]? = some u → (wr.alloc (.cells #[.int .u64 C] 23)).cell? ((⟨wr.heap.size, 0, none⟩ : Addr).add q) = some u := by
              intro q u hq
              match q, hq with
              | 0, hq => simp at hq; subst hq; simp [Addr.add]
            have HONE : ∀ u ∈ [Value.int .u64 C], u.oneCell' = true := by
              intro u hu; simp at hu; subst hu; rfl
            have hbs := Nat.le_trans hbase hU.size
            have HOF : Hid (∀ q, (Value.slice a j c).ownBlock = some q → base ≤ q) := owns_form hO
            have HU : Hid (Below base w wr) := hU
            have HZW : Hid (Words z) := hzw
            have HZ0 : Hid (∀ i, j ≤ i → z i = 0) := hz0
            have HV : Hid (val z j + C * 18446744073709551616 ^ j = val x j * S + b) := hv'
            clear hO hU hzw hzx hz0 hv hv'
            go_wp2_with (first | (at_builtin; refine wpList_append_lies _ rfl (.tmp 46) (.tmp 48) 30 rfl base 23 i0 (.int .u64 0) 1 8 Tryz.underlying30 hi hz00 hz1 hz2 rfl (by decide) (.slice a j c) j (wl z j) rfl HOWN2 ⟨wr.heap.size, 0, none⟩ 1 1 [Value.int .u64 C] rfl rfl HNEWS HONE (by omega) (by unfold maxLen; omega) (by omega) (by simp; omega) (wr.heap.size + 1) (by simp) ?_; intro g cap w1 hown1 hgrow hat hlt1; clear HOWN2 HNEWS HONE))
            have HB1 : Below base wr w1 := ((Below.refl _ wr).alloc hbs _).grown hgrow (by simp; omega) HOF.out
            have e1 : wl z j ++ [Value.int .u64 C] = wl (fun i => if i = j then C else z i) (j + 1) := by
              rw [← wl_succ, if_pos rfl, wl_congr (y := fun i => if i = j then C else z i) j fun i hi => (if_neg (show ¬ i = j by omega)).symm]
            rw [e1] at hown1
            have HR : Hid (Row base (some ⟨g, 0, none⟩) (j + 1) cap (fun i => if i = j then C else z i) w1) := by
              refine ⟨hown1, upd_words HZW.out hCb, fun i hi => (if_neg (show ¬ i = j by omega)).trans (HZ0.out i (by omega)), ?_, Nat.le_trans hbs HB1.size⟩
              simp [sizeL]; omega
            have HV2 : Hid (val (fun i => if i = j then C else z i) (j + 1) = val x j * S + b) := by
              show _ = _
              rw [← HV.out]
              simp only [val, if_pos]
              rw [val_congr (y := z) j fun i hi => if_neg (show ¬ i = j by omega)]
            have HB2 : Hid (Below base w w1) := HU.out.trans HB1
            clear hown1 hgrow HB1 e1
            go_wp2
            go_ret
            exact ⟨_, j + 1, cap, _, rfl, by omega, HR.out, by rw [HV2.out, hSb.out.1, ← hSb.out.2], HB2.out⟩
end
section
theorem digB_of {s : ByteArray} : ∀ (n : Nat), (∀ k, k < n → 48 ≤ sb s k ∧ sb s k ≤ 57) → digB s n = true
  | 0, _ => rfl
  | n + 1, h => by
    unfold digB
    rw [digB_of n fun k hk => h k (by omega)]
    simp; exact h n (by omega)
theorem numV_app {s u : ByteArray} (p : Nat) : ∀ L, (∀ i, i < L → sb u i = sb s (p + i)) → numV s (p + L) = numV s p * 10 ^ L + numV u L
  | 0, _ => by simp [numV]
  | L + 1, h => by
    have e := numV_app p L fun i hi => h i (by omega)
    rw [← Nat.add_assoc]
    simp only [numV]
    rw [e, h L (by omega), Int.pow_succ]
    grind
theorem ext_size {u : ByteArray} {a b : Nat} (hb : b ≤ u.size) : (u.extract a b).size = b - a := by
  rw [ByteArray.size_extract]; omega
theorem ext_sb {u : ByteArray} {a b i : Nat} (hb : b ≤ u.size) (hi : a + i < b) : sb (u.extract a b) i = sb u (a + i) := by
  unfold sb
  rw [dif_pos (show i < (u.extract a b).size by rw [ext_size hb]; omega), dif_pos (show a + i < u.size by omega)]
  simp [ByteArray.getElem_extract]

set_option maxHeartbeats 1000000 in
theorem nread_ok (s : ByteArray) (w : World) (hd : isDigB s = true) (hl : s.size ≤ 12000) :
    Calls Tryz.prog 118 #[.string s] w fun e w' => ∃ o k cap z, e = .returned (.tuple #[.slice o k cap, .int .i64 0]) ∧ k ≤ 12000 ∧ Num w' o k cap z ∧ val z k = numV s s.size ∧ sizeL z k = k ∧ Below w.heap.size w w' := by
  have ha := allDigits_any s w (by omega)
  rw [hd] at ha
  have hl' : (s.size : Int) ≤ 12000 := by omega
  have hdig : ∀ k, k < s.size → 48 ≤ sb s k ∧ sb s k ≤ 57 := by
    unfold isDigB at hd; simp at hd; exact digB_at s.size hd.1
  have HDG : Hid (∀ k, k < s.size → 48 ≤ sb s k ∧ sb s k ≤ 57) := hdig
  clear hd hdig
  go_enter Tryz.func118, Tryz.ntmps118
  go_wp2_with (go_at_call 143; refine ha.mono ?_; rintro e w' ⟨rfl, rfl⟩)
  clear ha
  go_loopw [0, 4, 5] (fun t0 t4 u5 wr => ∃ (p n c : Nat) (u : ByteArray) (ao : Option Addr) (z : Nat → Int), p ≤ s.size ∧ t0 = .string u ∧ t4 = .slice ao n c ∧ n ≤ p ∧ u.size = s.size - p ∧ (∀ i, i < u.size → sb u i = sb s (p + i)) ∧ Row w.heap.size ao n c z wr ∧ val z n = numV s p ∧ Below w.heap.size w wr) (fun t0 _ _ _ => match t0 with | .string u => u.size | _ => 0)
  case atStart => exact ⟨0, 0, 0, s, none, fun _ => 0, Nat.zero_le _, rfl, rfl, Nat.le_refl _, rfl, fun i _ => by rw [Nat.zero_add], ⟨World.ownsRow_nil _ _ _ _, fun _ => (by decide : (0 : Int) ≤ 0 ∧ (0 : Int) ≤ 18446744073709551615), fun _ _ => rfl, rfl, Nat.le_refl _⟩, rfl, Below.refl _ _⟩
  case round =>
    obtain ⟨p, n, c, u, ao, z, hp, rfl, rfl, hnp, hus, hub, hR, hv, hB⟩ := hrel
    by_cases h0 : u.size = 0
    · have e1 : p = s.size := by omega
      have hu0 : (u.size : Int) = 0 := by omega
      have HN : Hid (Num wr ao n c z) := num_of_owns' hR.2.1 hR.2.2.1 hR.1
      have HV : Hid (val z n = numV s s.size) := by show _ = _; rw [hv, e1]
      have HT : Hid (sizeL z n = n) := hR.2.2.2.1
      have HB : Hid (Below w.heap.size w wr) := hB
      clear hR hv hB hub
      go_wp2
      go_ret2
      exact ⟨ao, n, c, z, rfl, by omega, HN.out, HV.out, HT.out, HB.out⟩
    · have hu0 : (0 : Int) < u.size := by omega
      obtain ⟨L, hL⟩ : ∃ L : Nat, (if u.size ≤ 19 then u.size else 19) = L := ⟨_, rfl⟩
      have hL1 : 0 < L ∧ L ≤ 19 ∧ L ≤ u.size := by split at hL <;> omega
      have hmin : min (u.size : Int) 19 = L := by split at hL <;> omega
      have hLu : (L : Int) ≤ u.size := by omega
      have es : (u.extract 0 L).size = L := by rw [ext_size hL1.2.2]; omega
      have es2 : (u.extract L u.size).size = u.size - L := ext_size (Nat.le_refl _)
      have eb : ∀ i, i < L → sb (u.extract 0 L) i = sb s (p + i) := fun i hi => by rw [ext_sb hL1.2.2 (by omega), Nat.zero_add, hub i (by omega)]
      have eb2 : Hid (∀ i, i < (u.extract L u.size).size → sb (u.extract L u.size) i = sb s (p + L + i)) := fun i hi => by
        rw [es2] at hi
        rw [ext_sb (Nat.le_refl _) (by omega), hub (L + i) (by omega), Nat.add_assoc]
      have hap := appendPart_any w.heap.size ao n c z (u.extract 0 L) wr (by omega) (by omega) (by rw [es]; exact digB_of L fun k hk => by rw [eb k hk]; exact HDG.out (p + k) (by omega)) hR
      rw [es] at hap
      have HV : Hid (val z n * 10 ^ L + numV (u.extract 0 L) L = numV s (p + L)) := by show _ = _; rw [numV_app p L eb, hv]
      have HB : Hid (Below w.heap.size w wr) := hB
      have HE2 : Hid ((u.extract L u.size).size = s.size - (p + L)) := by show _ = _; rw [es2]; omega
      have HE3 : Hid ((u.extract L u.size).size < u.size) := by show _ < _; rw [es2]; omega
      have hpl : p + L ≤ s.size := by omega
      have hnk : n + 1 ≤ p + L := by omega
      clear hR hv hB hub es es2 eb hL hus
      go_wp2_with (go_at_call 144; refine hap.mono ?_; rintro e w1 ⟨o1, k1, p1, z1, rfl, hk1, hR1, hv1, hB1⟩; clear hap)
      go_roundw
      case rel => exact ⟨p + L, k1, p1, _, o1, z1, hpl, rfl, rfl, by omega, HE2.out, eb2.out, hR1, by rw [hv1, HV.out], HB.out.trans hB1⟩
      case measure => exact HE3.out
end
end Go.Proofs.YtpemdcnneabbfaaGreatDoor
