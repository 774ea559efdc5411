/-
  Texts that the proof leans on.
-/
import Derived.Test.YtehgnckgmdkfmaaGreatDoorJ3
import Derived.Laws.IdiomStrings
import Derived.Test.YtehgnckgmdkfmaaGreatDoorJ1
set_option linter.unusedVariables false
set_option linter.unusedSimpArgs false
set_option linter.unusedSectionVars false
set_option maxRecDepth 20000
namespace Go.Proofs.YtehgnckgmdkfmaaGreatDoor
open Go.RowKit
theorem B_drop (l : List UInt8) (k : Nat) : (B l).extract k (B l).size = B (l.drop k) := by
  rw [B_ext, B_size, List.take_length]
theorem isd_all {l : List UInt8} (h : isd l = true) : l.all dg = true := by
  unfold isd at h; simp only [Bool.and_eq_true] at h; exact h.1
section
/-- block g holds n bytes, which may be written -/
structure By (g n : Nat) (x : Nat → Int) (W : World) : Prop where
  lt : g < W.heap.size
  cell : ∀ j, j < n → W.cell? ⟨g, j, none⟩ = some (.int .u8 (x j))
  frz : ∀ j, j < n → W.frozen? ⟨g, j, none⟩ = false
theorem By.set {g n : Nat} {x : Nat → Int} {W : World} (h : By g n x W) (i : Nat) (v : Int) : By g n (fun j => if j = i then v else x j) (W.setCell ⟨g, i, none⟩ (.int .u8 v)) := by
  refine ⟨by simpa using h.lt, fun j hj => ?_, fun j hj => by rw [World.frozen?_setCell]; exact h.frz j hj⟩
  show _ = some (Value.int .u8 (if j = i then v else x j))
  by_cases e : j = i
  · subst e
    rw [if_pos rfl]
    exact World.cell?_setCell_same (h := h.cell j hj) ..
  · rw [if_neg e]
    exact (World.cell?_setCell_other (h := by intro h; cases h; exact e rfl) ..).trans (h.cell j hj)
theorem By.cong {g n : Nat} {x y : Nat → Int} {W : World} (h : By g n x W) (e : ∀ j, j < n → x j = y j) : By g n y W :=
  ⟨h.lt, fun j hj => by rw [h.cell j hj, e j hj], h.frz⟩
theorem By.of {l : List UInt8} {w : World} {cap : Nat} : By w.heap.size l.length (by_ l) (w.drew.alloc (.cells (bytesRow (B l) cap) 5 ((bytesRow (B l) cap).size, (bytesRow (B l) cap).size + 1))) := by
  have hsz : l.length ≤ (bytesRow (B l) cap).size := by unfold bytesRow; simp [B]
  refine ⟨by simp, fun j hj => ?_, fun j hj => ?_⟩
  · have : (bytesRow (B l) cap)[j]? = some (.int .u8 (by_ l j)) := by
      unfold bytesRow by_
      rw [dif_pos hj, Array.getElem?_append_left (by simpa [B] using hj)]
      simp [B, hj]
    have hh : (w.drew.alloc (.cells (bytesRow (B l) cap) 5 ((bytesRow (B l) cap).size, (bytesRow (B l) cap).size + 1))).heap[w.heap.size]? = some (.cells (bytesRow (B l) cap) 5 ((bytesRow (B l) cap).size, (bytesRow (B l) cap).size + 1)) := by
      show (Array.push w.heap _)[w.heap.size]? = _
      simp
    unfold World.cell?
    simp only [hh]
    simp [this]
  · have hh : (w.drew.alloc (.cells (bytesRow (B l) cap) 5 ((bytesRow (B l) cap).size, (bytesRow (B l) cap).size + 1))).heap[w.heap.size]? = some (.cells (bytesRow (B l) cap) 5 ((bytesRow (B l) cap).size, (bytesRow (B l) cap).size + 1)) := by
      show (Array.push w.heap _)[w.heap.size]? = _
      simp
    unfold World.frozen?
    simp only [hh]
    simp
    omega
/-- a small letter -/
def sm (c : UInt8) : UInt8 := if 65 ≤ c.toNat ∧ c.toNat ≤ 90 then c + 32 else c
def sml (l : List UInt8) : List UInt8 := l.map sm
theorem sml_len (l : List UInt8) : (sml l).length = l.length := by simp [sml]
theorem sm_nat (c : UInt8) : ((sm c).toNat : Int) = if 65 ≤ (c.toNat : Int) ∧ (c.toNat : Int) ≤ 90 then (c.toNat : Int) + 32 else c.toNat := by
  unfold sm
  have := c.toNat_lt
  by_cases h : 65 ≤ c.toNat ∧ c.toNat ≤ 90
  · rw [if_pos h, if_pos (by omega), UInt8.toNat_add]
    simp; omega
  · rw [if_neg h, if_neg (by omega)]
theorem by_sml {l : List UInt8} {i : Nat} (h : i < l.length) : by_ (sml l) i = if 65 ≤ by_ l i ∧ by_ l i ≤ 90 then by_ l i + 32 else by_ l i := by
  unfold by_
  rw [dif_pos (by rw [sml_len]; exact h), dif_pos h, ← sm_nat]
  simp [sml]
def mix (l : List UInt8) (k j : Nat) : Int := if j < k then by_ (sml l) j else by_ l j
theorem mix_zero (l : List UInt8) (j : Nat) : mix l 0 j = by_ l j := if_neg (Nat.not_lt_zero _)
theorem mix_next {l : List UInt8} {k : Nat} (h : k < l.length) (j : Nat) : (if j = k then by_ (sml l) k else mix l k j) = mix l (k + 1) j := by
  unfold mix
  by_cases e : j = k
  · subst e; rw [if_pos rfl, if_pos (by omega)]
  · rw [if_neg e]
    by_cases e2 : j < k
    · rw [if_pos e2, if_pos (by omega)]
    · rw [if_neg e2, if_neg (by omega)]
theorem by_get {l : List UInt8} {i : Nat} (h : i < l.length) : ((l[i]'h).toNat : Int) = by_ l i := by unfold by_; rw [dif_pos h]
theorem back_any {l : List UInt8} {g cap n : Nat} {x : Nat → Int} {W : World} (hn : l.length = n) (h : By g n x W) (e : ∀ j, j < n → x j = by_ l j) : (convert 69 9 (.slice (some ⟨g, 0, none⟩) n cap)).run Tryz.prog W = .ok (.string (B l)) W := by
  subst hn
  refine run_convert_bytes_back W 69 9 5 ⟨g, 0, none⟩ cap l Tryz.underlying69 Tryz.underlying5 Tryz.underlying9 fun j hj => ?_
  have := h.cell j hj
  rw [e j hj, ← by_get hj] at this
  rw [show (⟨g, 0, none⟩ : Addr).add j = ⟨g, j, none⟩ by unfold Addr.add; split <;> simp_all]
  exact this
set_option maxHeartbeats 1000000 in
theorem gsmall_any (l : List UInt8) (w : World) (hs : l.length < 10001) :
    Calls Tryz.prog 68 #[.string (B l)] w fun e w' => e = .returned (.string (B (sml l))) ∧ Below w.heap.size w w' := by
  have hsz := B_size l
  have hcv := run_bytes_of_string (P := Tryz.prog) w 9 69 5 (B l) Tryz.underlying9 Tryz.underlying69 Tryz.underlying5
  rw [hsz] at hcv
  generalize hcp : grownCap w l.length 0 5 = cap at hcv
  have HY : By w.heap.size l.length (by_ l) (w.drew.alloc (.cells (bytesRow (B l) cap) 5 ((bytesRow (B l) cap).size, (bytesRow (B l) cap).size + 1))) := By.of
  have HB : Below w.heap.size w (w.drew.alloc (.cells (bytesRow (B l) cap) 5 ((bytesRow (B l) cap).size, (bytesRow (B l) cap).size + 1))) := (Below.refl _ _).drew.alloc (Nat.le_refl _) _
  generalize hW : w.drew.alloc (.cells (bytesRow (B l) cap) 5 ((bytesRow (B l) cap).size, (bytesRow (B l) cap).size + 1)) = W at *
  clear hW hcp
  go_enter Tryz.func68, Tryz.ntmps68
  go_wp2
  go_loopw [4, 5, 10] (fun u4 u5 i wr => ∃ k : Nat, k ≤ l.length ∧ i = .int .i64 k ∧ By w.heap.size l.length (mix l k) wr ∧ Below w.heap.size w wr) (fun _ _ i _ => l.length - (intOf i).toNat)
  case atStart => exact ⟨0, Nat.zero_le _, rfl, HY.cong fun j _ => (mix_zero l j).symm, HB⟩
  case round =>
    clear HY HB hcv
    obtain ⟨k, hk, rfl, hY, hB⟩ := hrel
    by_cases hlt : k < l.length
    · have hki : (k : Int) < l.length := by omega
      have hc := hY.cell k hlt
      have hf := hY.frz k hlt
      rw [show mix l k k = by_ l k from if_neg (Nat.lt_irrefl _)] at hc
      have hbd := by_bd l k
      have HS : Hid (by_ (sml l) k = if 65 ≤ by_ l k ∧ by_ l k ≤ 90 then by_ l k + 32 else by_ l k) := by_sml hlt
      have HM : Hid (∀ j, (if j = k then by_ (sml l) k else mix l k j) = mix l (k + 1) j) := mix_next hlt
      have HY : Hid (By w.heap.size l.length (mix l k) wr) := hY
      have HB : Hid (Below w.heap.size w wr) := hB
      clear hY hB
      by_cases h1 : 65 ≤ by_ l k ∧ by_ l k ≤ 90
      · obtain ⟨h1, h2⟩ := h1
        have HV : Hid (by_ (sml l) k = by_ l k + 32) := by show _ = _; rw [HS.out, if_pos ⟨h1, h2⟩]
        generalize by_ l k = b at *
        go_wp2
        go_roundw
        case rel =>
          refine ⟨k + 1, by omega, by go_num, ?_, HB.out.setCell (Nat.le_refl _) _⟩
          refine By.cong (HY.out.set k _) fun j hj => ?_
          rw [← HM.out j, HV.out]
          all_goals
            by_cases e : j = k
            · rw [if_pos e, if_pos e]; omega
            · rw [if_neg e, if_neg e]
        case measure => simp [intOf]; omega
      · have HV : Hid (by_ (sml l) k = by_ l k) := by show _ = _; rw [HS.out, if_neg h1]
        have hrel2 : Hid (By w.heap.size l.length (mix l (k + 1)) wr) := HY.out.cong fun j hj => by
          rw [← HM.out j, HV.out]
          by_cases e : j = k
          · subst e; rw [if_pos rfl]; exact if_neg (Nat.lt_irrefl _)
          · rw [if_neg e]
        generalize by_ l k = b at *
        rcases Int.lt_or_le b 65 with h2 | h2
        · clear h1
          go_wp2
          go_roundw
          case rel => exact ⟨k + 1, by omega, by go_num, hrel2.out, HB.out⟩
          case measure => simp [intOf]; omega
        · have h3 : 90 < b := by omega
          clear h1
          go_wp2
          go_roundw
          case rel => exact ⟨k + 1, by omega, by go_num, hrel2.out, HB.out⟩
          case measure => simp [intOf]; omega
    · obtain rfl : k = l.length := by omega
      have hbk := back_any (l := sml l) (cap := cap) (sml_len l) hY fun j hj => if_pos hj
      have HB : Hid (Below w.heap.size w wr) := hB
      clear hY hB
      go_wp2
      go_ret
      exact ⟨rfl, HB.out⟩
end
section
theorem gtrim_any (l : List UInt8) (w : World) : Calls Tryz.prog 95 #[.string (B l), .string ⟨#[48]⟩] w fun e w' => e = .returned (.string (B (bar l))) ∧ w' = w :=
  Tryz.strings_TrimLeft_one (B l) 48 (by decide) w
set_option maxHeartbeats 400000 in
theorem clone_any (l : List UInt8) (w : World) (hs : l.length < 4294967296) : Calls Tryz.prog 94 #[.string (B l)] w fun e w' => e = .returned (.string (B l)) ∧ Below w.heap.size w w' := by
  have c := fun w => Tryz.stringslite_Clone (B l) w (by rw [B_size]; omega)
  go_enter Tryz.func94, Tryz.ntmps94
  go_wp2_with (go_at_call 111; refine (c _).mono ?_; rintro x w1 ⟨rfl, hb1⟩)
  go_ret
  exact ⟨rfl, hb1⟩
theorem cutp_any (l p : List UInt8) (w : World) : Calls Tryz.prog 65 #[.string (B l), .string ⟨p.toArray⟩] w fun e w' => e = .returned (.tuple #[.string (B (Lib.trimPrefix l p)), .bool (Lib.hasPrefix l p)]) ∧ w' = w :=
  Tryz.strings_CutPrefix (B l) (B p) w
set_option maxHeartbeats 400000 in
theorem signif_any (l : List UInt8) (w : World) (hs : l.length < 4294967296) : Calls Tryz.prog 67 #[.string (B l)] w fun e w' => e = .returned (.string (B (bar l))) ∧ Below w.heap.size w w' := by
  have c := fun w => gtrim_any l w
  have c2 := fun w => clone_any (bar l) w (by have := bar_le l; omega)
  go_enter Tryz.func67, Tryz.ntmps67
  go_wp2_with (first | (go_at_call 95; refine (c _).mono ?_; rintro x w1 ⟨rfl, rfl⟩) | (go_at_call 94; refine (c2 _).mono ?_; rintro x w2 ⟨rfl, hb2⟩))
  go_ret
  exact ⟨rfl, hb2⟩
/-- parts, as a value -/
def PV (c : Int) (s g : Bool) (d : List UInt8) (e : Int) : Value := .agg #[.int .i64 c, .bool s, .bool g, .string (B d), .int .i64 e]
def clampE (e : Int) : Int := min (max e (-1000000000)) 1000000000
/-- behind the point, and behind that -/
def frac (s : List UInt8) : List UInt8 := if Lib.hasPrefix (rst s) [46] then dgs (Lib.trimPrefix (rst s) [46]) else []
def behind (s : List UInt8) : List UInt8 := if Lib.hasPrefix (rst s) [46] then rst (Lib.trimPrefix (rst s) [46]) else rst s
def finB (s : List UInt8) : Bool := exB (behind s) && !((dgs s).isEmpty && (frac s).isEmpty)
def finD (s : List UInt8) : List UInt8 := bar (dgs s ++ frac s)
def finE (s : List UInt8) : Int := clampE (exI (behind s) - (frac s).length)
theorem trimPre_le (l p : List UInt8) : (Lib.trimPrefix l p).length ≤ l.length := by unfold Lib.trimPrefix; split <;> simp
theorem exS_bd (r : List UInt8) (h : isd (sgR r) = true) : -2000000000 ≤ exS r ∧ exS r ≤ 2000000000 := by
  have := vc_bd (isd_all h)
  unfold exS; split <;> omega
theorem exI_bd (l : List UInt8) : -2000000000 ≤ exI l ∧ exI l ≤ 2000000000 := by
  cases l with
  | nil => show -2000000000 ≤ (0 : Int) ∧ (0 : Int) ≤ 2000000000; omega
  | cons c r =>
    show -2000000000 ≤ (if exB (c :: r) then exS r else 0) ∧ (if exB (c :: r) then exS r else 0) ≤ 2000000000
    by_cases h : exB (c :: r) = true
    · rw [if_pos h]
      have : isd (sgR r) = true := by
        have h2 : (decide _ && isd (sgR r)) = true := h
        rw [Bool.and_eq_true] at h2; exact h2.2
      exact exS_bd r this
    · rw [if_neg h]; omega
/-- without a point -/
def npB (s : List UInt8) : Bool := exB (rst s) && !(dgs s).isEmpty
set_option maxHeartbeats 2000000 in
theorem finite_np (s : List UInt8) (w : World) (hs : s.length < 10001) (hp : Lib.hasPrefix (rst s) [46] = false) :
    Calls Tryz.prog 37 #[.string (B s)] w fun e w' => e = .returned (.tuple #[if npB s then PV 1 false false (bar (dgs s)) (clampE (exI (rst s))) else PV 0 false false [] 0, .bool (npB s)]) ∧ Below w.heap.size w w' := by
  have htl := B_toList
  have c27 := fun w => ldig_any s w (by omega)
  have c28 : ∀ w, Calls Tryz.prog 65 #[.string (B (rst s)), .string ⟨#[46]⟩] w fun e w' => e = .returned (.tuple #[.string (B (Lib.trimPrefix (rst s) [46])), .bool (Lib.hasPrefix (rst s) [46])]) ∧ w' = w := fun w => cutp_any (rst s) [46] w
  rw [hp] at c28
  have hdl := dgs_le s
  have c29 := fun w => exponent_any (rst s) w (by have := rst_le s; omega)
  have hx := exI_bd (rst s)
  have c30 := fun w => signif_any (dgs s) w (by omega)
  unfold npB PV clampE
  generalize bar (dgs s) = D at *
  generalize Lib.trimPrefix (rst s) [46] = T at *
  generalize rst s = R at *
  generalize exI R = E at *
  generalize exB R = z at *
  clear hp
  cases z
  · rw [Bool.false_and]
    clear c30
    generalize dgs s = X at *
    simp only [Bool.false_eq_true, if_false]
    go_enter Tryz.func37, Tryz.ntmps37
    go_wp2_with (first | (go_at_call 64; refine (c27 _).mono ?_; rintro x w1 ⟨rfl, hb1⟩; obtain ⟨hc1, hf1⟩ := gbcell hb1; have hz1_0 : w.heap.size < w1.heap.size := glt_below hb1 ltg; have hl1_0 := Nat.le_of_lt hz1_0; have hA1 := gbnext (w0 := w) bgo hb1; have hs1 := hA1.size; clear hb1) | (go_at_call 65; refine (c28 _).mono ?_; rintro x w2 ⟨rfl, rfl⟩) | (go_at_call 66; refine (c29 _).mono ?_; rintro x w3 ⟨rfl, hb3⟩; obtain ⟨hc3, hf3⟩ := gbcell hb3; have hz3_0 : w.heap.size < w3.heap.size := glt_below hb3 ltg; have hl3_0 := Nat.le_of_lt hz3_0; have hA3 := gbnext (w0 := w) bgo hb3; have hs3 := hA3.size; clear hb3) | (go_at_call 67; refine (c30 _).mono ?_; rintro x w4 ⟨rfl, hb4⟩; obtain ⟨hc4, hf4⟩ := gbcell hb4; have hz4_0 : w.heap.size < w4.heap.size := glt_below hb4 ltg; have hl4_0 := Nat.le_of_lt hz4_0; have hA4 := gbnext (w0 := w) bgo hb4; have hs4 := hA4.size; clear hb4))
    exact bodyPost_ret (v := .tuple #[.agg #[.int .i64 0, .bool false, .bool false, .string ⟨#[]⟩, .int .i64 0], .bool false]) (by simp only [results, Tryz.results37]; go_simp) rfl ⟨rfl, bgo⟩
  · rw [Bool.true_and]
    generalize dgs s = X at *
    cases X with
    | nil =>
      clear c30
      simp only [List.isEmpty_nil, Bool.not_true, Bool.false_eq_true, if_false]
      go_enter Tryz.func37, Tryz.ntmps37
      go_wp2_with (first | (go_at_call 64; refine (c27 _).mono ?_; rintro x w1 ⟨rfl, hb1⟩; obtain ⟨hc1, hf1⟩ := gbcell hb1; have hz1_0 : w.heap.size < w1.heap.size := glt_below hb1 ltg; have hl1_0 := Nat.le_of_lt hz1_0; have hA1 := gbnext (w0 := w) bgo hb1; have hs1 := hA1.size; clear hb1) | (go_at_call 65; refine (c28 _).mono ?_; rintro x w2 ⟨rfl, rfl⟩) | (go_at_call 66; refine (c29 _).mono ?_; rintro x w3 ⟨rfl, hb3⟩; obtain ⟨hc3, hf3⟩ := gbcell hb3; have hz3_0 : w.heap.size < w3.heap.size := glt_below hb3 ltg; have hl3_0 := Nat.le_of_lt hz3_0; have hA3 := gbnext (w0 := w) bgo hb3; have hs3 := hA3.size; clear hb3) | (go_at_call 67; refine (c30 _).mono ?_; rintro x w4 ⟨rfl, hb4⟩; obtain ⟨hc4, hf4⟩ := gbcell hb4; have hz4_0 : w.heap.size < w4.heap.size := glt_below hb4 ltg; have hl4_0 := Nat.le_of_lt hz4_0; have hA4 := gbnext (w0 := w) bgo hb4; have hs4 := hA4.size; clear hb4))
      exact bodyPost_ret (v := .tuple #[.agg #[.int .i64 0, .bool false, .bool false, .string ⟨#[]⟩, .int .i64 0], .bool false]) (by simp only [results, Tryz.results37]; go_simp) rfl ⟨rfl, bgo⟩
    | cons x xs =>
      simp only [List.isEmpty_cons, Bool.not_false, if_true]
      have hap := B_app (x :: xs) []
      rw [List.append_nil] at hap
      have hb9 : (B (x :: xs)).size < 10001 := by rw [B_size]; omega
      have hn : B [] = ⟨#[]⟩ := rfl
      have hn0 : (⟨#[]⟩ : ByteArray).size = 0 := rfl
      rw [hn] at hap
      go_enter Tryz.func37, Tryz.ntmps37
      go_wp2_with (first | (go_at_call 64; refine (c27 _).mono ?_; rintro x w1 ⟨rfl, hb1⟩; obtain ⟨hc1, hf1⟩ := gbcell hb1; have hz1_0 : w.heap.size < w1.heap.size := glt_below hb1 ltg; have hl1_0 := Nat.le_of_lt hz1_0; have hA1 := gbnext (w0 := w) bgo hb1; have hs1 := hA1.size; clear hb1) | (go_at_call 65; refine (c28 _).mono ?_; rintro x w2 ⟨rfl, rfl⟩) | (go_at_call 66; refine (c29 _).mono ?_; rintro x w3 ⟨rfl, hb3⟩; obtain ⟨hc3, hf3⟩ := gbcell hb3; have hz3_0 : w.heap.size < w3.heap.size := glt_below hb3 ltg; have hl3_0 := Nat.le_of_lt hz3_0; have hA3 := gbnext (w0 := w) bgo hb3; have hs3 := hA3.size; clear hb3) | (go_at_call 67; refine (c30 _).mono ?_; rintro x w4 ⟨rfl, hb4⟩; obtain ⟨hc4, hf4⟩ := gbcell hb4; have hz4_0 : w.heap.size < w4.heap.size := glt_below hb4 ltg; have hl4_0 := Nat.le_of_lt hz4_0; have hA4 := gbnext (w0 := w) bgo hb4; have hs4 := hA4.size; clear hb4))
      exact bodyPost_ret (v := .tuple #[.agg #[.int .i64 1, .bool false, .bool false, .string (B D), .int .i64 (min (max E (-1000000000)) 1000000000)], .bool true]) (by simp only [results, Tryz.results37]; go_simp) rfl ⟨rfl, bgo⟩
/-- with a point -/
def ptB (X T : List UInt8) : Bool := exB (rst T) && !(X.isEmpty && (dgs T).isEmpty)
set_option maxHeartbeats 2000000 in
theorem finite_pt (s T : List UInt8) (w : World) (hs : s.length < 10001) (hp : Lib.hasPrefix (rst s) [46] = true) (hT : Lib.trimPrefix (rst s) [46] = T) :
    Calls Tryz.prog 37 #[.string (B s)] w fun e w' => e = .returned (.tuple #[if ptB (dgs s) T then PV 1 false false (bar (dgs s ++ dgs T)) (clampE (exI (rst T) - (dgs T).length)) else PV 0 false false [] 0, .bool (ptB (dgs s) T)]) ∧ Below w.heap.size w w' := by
  have htl := B_toList
  have c27 := fun w => ldig_any s w (by omega)
  have c28 : ∀ w, Calls Tryz.prog 65 #[.string (B (rst s)), .string ⟨#[46]⟩] w fun e w' => e = .returned (.tuple #[.string (B (Lib.trimPrefix (rst s) [46])), .bool (Lib.hasPrefix (rst s) [46])]) ∧ w' = w := fun w => cutp_any (rst s) [46] w
  rw [hp] at c28
  have hdl := dgs_le s
  rw [hT] at c28
  have hTl : T.length ≤ s.length := by rw [← hT]; exact Nat.le_trans (trimPre_le _ _) (rst_le _)
  have hFl := dgs_le T
  have c27b := fun w => ldig_any T w (by omega)
  have c29 := fun w => exponent_any (rst T) w (by have := rst_le T; omega)
  have hx := exI_bd (rst T)
  have c30 := fun w => signif_any (dgs s ++ dgs T) w (by rw [List.length_append]; omega)
  have hap := B_app (dgs s) (dgs T)
  unfold ptB PV clampE
  generalize bar (dgs s ++ dgs T) = D at *
  clear hT hp
  generalize rst s = R at *
  generalize exI (rst T) = E at *
  generalize exB (rst T) = z at *
  generalize rst T = R2 at *
  generalize dgs T = F at *
  have hszF := B_size F
  have hF9 : (B F).size < 10001 := by rw [hszF]; omega
  cases z
  · rw [Bool.false_and]
    clear c30 hap
    generalize dgs s = X at *
    simp only [Bool.false_eq_true, if_false]
    go_enter Tryz.func37, Tryz.ntmps37
    go_wp2_with (first | (go_at_call 64; refine (c27 _).mono ?_; rintro x w1 ⟨rfl, hb1⟩; clear c27; obtain ⟨hc1, hf1⟩ := gbcell hb1; have hz1_0 : w.heap.size < w1.heap.size := glt_below hb1 ltg; have hl1_0 := Nat.le_of_lt hz1_0; have hA1 := gbnext (w0 := w) bgo hb1; have hs1 := hA1.size; clear hb1) | (go_at_call 65; refine (c28 _).mono ?_; rintro x w2 ⟨rfl, rfl⟩))
    go_wp2_with (first | (go_at_call 64; refine (c27b _).mono ?_; rintro x w5 ⟨rfl, hb5⟩; obtain ⟨hc5, hf5⟩ := gbcell hb5; have hz5_0 : w.heap.size < w5.heap.size := glt_below hb5 ltg; have hl5_0 := Nat.le_of_lt hz5_0; have hA5 := gbnext (w0 := w) bgo hb5; have hs5 := hA5.size; clear hb5) | (go_at_call 66; refine (c29 _).mono ?_; rintro x w3 ⟨rfl, hb3⟩; obtain ⟨hc3, hf3⟩ := gbcell hb3; have hz3_0 : w.heap.size < w3.heap.size := glt_below hb3 ltg; have hl3_0 := Nat.le_of_lt hz3_0; have hA3 := gbnext (w0 := w) bgo hb3; have hs3 := hA3.size; clear hb3) | (go_at_call 67; refine (c30 _).mono ?_; rintro x w4 ⟨rfl, hb4⟩; obtain ⟨hc4, hf4⟩ := gbcell hb4; have hz4_0 : w.heap.size < w4.heap.size := glt_below hb4 ltg; have hl4_0 := Nat.le_of_lt hz4_0; have hA4 := gbnext (w0 := w) bgo hb4; have hs4 := hA4.size; clear hb4))
    exact bodyPost_ret (v := .tuple #[.agg #[.int .i64 0, .bool false, .bool false, .string ⟨#[]⟩, .int .i64 0], .bool false]) (by simp only [results, Tryz.results37]; go_simp) rfl ⟨rfl, bgo⟩
  · rw [Bool.true_and]
    generalize dgs s = X at *
    cases X with
    | nil =>
      cases F with
      | nil =>
        clear c30 hap
        simp only [List.isEmpty_nil, Bool.true_and, Bool.not_true, Bool.false_eq_true, if_false]
        go_enter Tryz.func37, Tryz.ntmps37
        go_wp2_with (first | (go_at_call 64; refine (c27 _).mono ?_; rintro x w1 ⟨rfl, hb1⟩; clear c27; obtain ⟨hc1, hf1⟩ := gbcell hb1; have hz1_0 : w.heap.size < w1.heap.size := glt_below hb1 ltg; have hl1_0 := Nat.le_of_lt hz1_0; have hA1 := gbnext (w0 := w) bgo hb1; have hs1 := hA1.size; clear hb1) | (go_at_call 65; refine (c28 _).mono ?_; rintro x w2 ⟨rfl, rfl⟩))
        go_wp2_with (first | (go_at_call 64; refine (c27b _).mono ?_; rintro x w5 ⟨rfl, hb5⟩; obtain ⟨hc5, hf5⟩ := gbcell hb5; have hz5_0 : w.heap.size < w5.heap.size := glt_below hb5 ltg; have hl5_0 := Nat.le_of_lt hz5_0; have hA5 := gbnext (w0 := w) bgo hb5; have hs5 := hA5.size; clear hb5) | (go_at_call 66; refine (c29 _).mono ?_; rintro x w3 ⟨rfl, hb3⟩; obtain ⟨hc3, hf3⟩ := gbcell hb3; have hz3_0 : w.heap.size < w3.heap.size := glt_below hb3 ltg; have hl3_0 := Nat.le_of_lt hz3_0; have hA3 := gbnext (w0 := w) bgo hb3; have hs3 := hA3.size; clear hb3) | (go_at_call 67; refine (c30 _).mono ?_; rintro x w4 ⟨rfl, hb4⟩; obtain ⟨hc4, hf4⟩ := gbcell hb4; have hz4_0 : w.heap.size < w4.heap.size := glt_below hb4 ltg; have hl4_0 := Nat.le_of_lt hz4_0; have hA4 := gbnext (w0 := w) bgo hb4; have hs4 := hA4.size; clear hb4))
        exact bodyPost_ret (v := .tuple #[.agg #[.int .i64 0, .bool false, .bool false, .string ⟨#[]⟩, .int .i64 0], .bool false]) (by simp only [results, Tryz.results37]; go_simp) rfl ⟨rfl, bgo⟩
      | cons f fs =>
        simp only [List.isEmpty_nil, List.isEmpty_cons, Bool.true_and, Bool.not_false, if_true]
        have hb9 : (B []).size = 0 := rfl
        have hfs : fs.length + 1 < 10001 := by rw [List.length_cons] at hFl; omega
        go_enter Tryz.func37, Tryz.ntmps37
        go_wp2_with (first | (go_at_call 64; refine (c27 _).mono ?_; rintro x w1 ⟨rfl, hb1⟩; clear c27; obtain ⟨hc1, hf1⟩ := gbcell hb1; have hz1_0 : w.heap.size < w1.heap.size := glt_below hb1 ltg; have hl1_0 := Nat.le_of_lt hz1_0; have hA1 := gbnext (w0 := w) bgo hb1; have hs1 := hA1.size; clear hb1) | (go_at_call 65; refine (c28 _).mono ?_; rintro x w2 ⟨rfl, rfl⟩))
        go_wp2_with (first | (go_at_call 64; refine (c27b _).mono ?_; rintro x w5 ⟨rfl, hb5⟩; obtain ⟨hc5, hf5⟩ := gbcell hb5; have hz5_0 : w.heap.size < w5.heap.size := glt_below hb5 ltg; have hl5_0 := Nat.le_of_lt hz5_0; have hA5 := gbnext (w0 := w) bgo hb5; have hs5 := hA5.size; clear hb5) | (go_at_call 66; refine (c29 _).mono ?_; rintro x w3 ⟨rfl, hb3⟩; obtain ⟨hc3, hf3⟩ := gbcell hb3; have hz3_0 : w.heap.size < w3.heap.size := glt_below hb3 ltg; have hl3_0 := Nat.le_of_lt hz3_0; have hA3 := gbnext (w0 := w) bgo hb3; have hs3 := hA3.size; clear hb3) | (go_at_call 67; refine (c30 _).mono ?_; rintro x w4 ⟨rfl, hb4⟩; obtain ⟨hc4, hf4⟩ := gbcell hb4; have hz4_0 : w.heap.size < w4.heap.size := glt_below hb4 ltg; have hl4_0 := Nat.le_of_lt hz4_0; have hA4 := gbnext (w0 := w) bgo hb4; have hs4 := hA4.size; clear hb4))
        exact bodyPost_ret (v := .tuple #[.agg #[.int .i64 1, .bool false, .bool false, .string (B D), .int .i64 (min (max (E - (f :: fs).length) (-1000000000)) 1000000000)], .bool true]) (by simp only [results, Tryz.results37]; go_simp) rfl ⟨rfl, bgo⟩
    | cons x xs =>
      simp only [List.isEmpty_cons, Bool.false_and, Bool.not_false, if_true]
      have hb9 : (B (x :: xs)).size < 10001 := by rw [B_size]; omega
      go_enter Tryz.func37, Tryz.ntmps37
      go_wp2_with (first | (go_at_call 64; refine (c27 _).mono ?_; rintro x w1 ⟨rfl, hb1⟩; clear c27; obtain ⟨hc1, hf1⟩ := gbcell hb1; have hz1_0 : w.heap.size < w1.heap.size := glt_below hb1 ltg; have hl1_0 := Nat.le_of_lt hz1_0; have hA1 := gbnext (w0 := w) bgo hb1; have hs1 := hA1.size; clear hb1) | (go_at_call 65; refine (c28 _).mono ?_; rintro x w2 ⟨rfl, rfl⟩))
      go_wp2_with (first | (go_at_call 64; refine (c27b _).mono ?_; rintro x w5 ⟨rfl, hb5⟩; obtain ⟨hc5, hf5⟩ := gbcell hb5; have hz5_0 : w.heap.size < w5.heap.size := glt_below hb5 ltg; have hl5_0 := Nat.le_of_lt hz5_0; have hA5 := gbnext (w0 := w) bgo hb5; have hs5 := hA5.size; clear hb5) | (go_at_call 66; refine (c29 _).mono ?_; rintro x w3 ⟨rfl, hb3⟩; obtain ⟨hc3, hf3⟩ := gbcell hb3; have hz3_0 : w.heap.size < w3.heap.size := glt_below hb3 ltg; have hl3_0 := Nat.le_of_lt hz3_0; have hA3 := gbnext (w0 := w) bgo hb3; have hs3 := hA3.size; clear hb3) | (go_at_call 67; refine (c30 _).mono ?_; rintro x w4 ⟨rfl, hb4⟩; obtain ⟨hc4, hf4⟩ := gbcell hb4; have hz4_0 : w.heap.size < w4.heap.size := glt_below hb4 ltg; have hl4_0 := Nat.le_of_lt hz4_0; have hA4 := gbnext (w0 := w) bgo hb4; have hs4 := hA4.size; clear hb4))
      exact bodyPost_ret (v := .tuple #[.agg #[.int .i64 1, .bool false, .bool false, .string (B D), .int .i64 (min (max (E - F.length) (-1000000000)) 1000000000)], .bool true]) (by simp only [results, Tryz.results37]; go_simp) rfl ⟨rfl, bgo⟩
theorem fin_eq (s : List UInt8) (w : World) (hs : s.length < 10001) :
    Calls Tryz.prog 37 #[.string (B s)] w fun e w' => e = .returned (.tuple #[if finB s then PV 1 false false (finD s) (finE s) else PV 0 false false [] 0, .bool (finB s)]) ∧ Below w.heap.size w w' := by
  by_cases hp : Lib.hasPrefix (rst s) [46] = true
  · have c := finite_pt s _ w hs hp rfl
    have e1 : finB s = ptB (dgs s) (Lib.trimPrefix (rst s) [46]) := by unfold finB ptB frac behind; rw [if_pos hp, if_pos hp]
    have e2 : finD s = bar (dgs s ++ dgs (Lib.trimPrefix (rst s) [46])) := by unfold finD frac; rw [if_pos hp]
    have e3 : finE s = clampE (exI (rst (Lib.trimPrefix (rst s) [46])) - (dgs (Lib.trimPrefix (rst s) [46])).length) := by unfold finE frac behind; rw [if_pos hp, if_pos hp]
    rw [e1, e2, e3]; exact c
  · have hp' : Lib.hasPrefix (rst s) [46] = false := by simpa using hp
    have c := finite_np s w hs hp'
    have e1 : finB s = npB s := by unfold finB npB frac behind; rw [if_neg hp, if_neg hp]; simp
    have e2 : finD s = bar (dgs s) := by unfold finD frac; rw [if_neg hp, List.append_nil]
    have e3 : finE s = clampE (exI (rst s)) := by unfold finE frac behind; rw [if_neg hp, if_neg hp]; simp
    rw [e1, e2, e3]; exact c
end
end Go.Proofs.YtehgnckgmdkfmaaGreatDoor
