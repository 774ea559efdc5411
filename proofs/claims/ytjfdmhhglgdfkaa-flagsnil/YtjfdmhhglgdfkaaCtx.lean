/-
  What flags' Raise, Clear, Test, Set, Flags and Direction do, called by one goroutine: contracts.
-/
import Derived.Test.YtjfdmhhglgdfkaaRows
import Derived.Test.YtjfdmhhglgdfkaaBit
import Derived.Laws.LoneSync
import Derived.RegionCalls
import Derived.WalkKit
import Derived.WalkSpells
import Derived.WalkLawsBesides
import Derived.Below
set_option linter.unusedVariables false
set_option linter.unusedSimpArgs false
namespace Go.Proofs.Ytjfdmhhglgdfkaa
open Go.RowKit

section
variable {P : Program} {f : FuncId} {fn : Func}
/-- sync/atomic.OrT, AndT: what the cell held is handed back. -/
theorem run_call_bits (op : BinOp) (hop : ∀ k x y, Op.intBits op k x y = pure (.int k (bits op k x y))) (hf : P.funcs[f]? = some fn) (hname : (fn.name == "runtime.NumGoroutine") = false) (hb : fn.body.isNone = true) (hn : Extern.findNext fn = none) (k : IntKind)
    (he : Extern.find fn = some (Extern.Atomic.update (Op.intBits op) k false)) {a : Addr} {x : Int} (y : Int) {w : World} (hc : w.cell? a = some (.int k x)) (hz : w.frozen? a = false) :
    (callFunc f #[.pointer (some a), .int k y]).run P w = .ok (.value (.int k x)) (w.setCell a (.int k (bits op k x y))) := by
  rw [run_callFunc_extern hf hname hb hn he]
  change (Sem.run P (do
    let a' ← asAddr (.pointer (some a))
    let old ← Extern.Atomic.read (.int k) a'
    let new ← Op.intBits op k (← asInt old) (← asInt (.int k y))
    store a' new .atomic
    pure (if false = true then new else old)) w).andThen _ = _
  simp [Extern.Atomic.read, asAddr, asInt, asIntOf, hc, hz, hop, run_store P w a (.int k (bits op k x y)) .atomic rfl, Result.andThen]
/-- sync/atomic.SwapT -/
theorem run_call_swap (hf : P.funcs[f]? = some fn) (hname : (fn.name == "runtime.NumGoroutine") = false) (hb : fn.body.isNone = true) (hn : Extern.findNext fn = none) (k : IntKind)
    (he : Extern.find fn = some (Extern.Atomic.swapT (.int k))) {a : Addr} {x : Int} (y : Int) {w : World} (hc : w.cell? a = some (.int k x)) (hz : w.frozen? a = false) :
    (callFunc f #[.pointer (some a), .int k y]).run P w = .ok (.value (.int k x)) (w.setCell a (.int k y)) := by
  rw [run_callFunc_extern hf hname hb hn he]
  change (Sem.run P (do
    let a' ← asAddr (.pointer (some a))
    let old ← Extern.Atomic.read (.int k) a'
    store a' (.int k y) .atomic
    pure old) w).andThen _ = _
  simp [Extern.Atomic.read, asAddr, hc, hz, run_store P w a (.int k y) .atomic rfl, Result.andThen]
end

/-- block b is a context: its flags, its direction -/
def Ctx (b : Nat) (r : BitVec 4) (d : Int) (w : World) : Prop := w.heap[b]? = some (.cells #[.int .u32 (F r), .int .i32 d] 34)
theorem Ctx.lt {b : Nat} {r : BitVec 4} {d : Int} {w : World} (h : Ctx b r d w) : b < w.heap.size := by
  rcases Nat.lt_or_ge b w.heap.size with h' | h'
  · exact h'
  · unfold Ctx at h; rw [Array.getElem?_eq_none h'] at h; cases h
theorem Ctx.cell0 {b : Nat} {r : BitVec 4} {d : Int} {w : World} (h : Ctx b r d w) : w.cell? ⟨b, 0, none⟩ = some (.int .u32 (F r)) := by
  unfold World.cell?; have hh : w.heap[b]? = _ := h; simp [hh]
theorem Ctx.cell1 {b : Nat} {r : BitVec 4} {d : Int} {w : World} (h : Ctx b r d w) : w.cell? ⟨b, 1, none⟩ = some (.int .i32 d) := by
  unfold World.cell?; have hh : w.heap[b]? = _ := h; simp [hh]
theorem Ctx.frozen {b : Nat} {r : BitVec 4} {d : Int} {w : World} (h : Ctx b r d w) (i : Nat) : w.frozen? ⟨b, i, none⟩ = false := by
  unfold World.frozen?; have hh : w.heap[b]? = _ := h; simp [hh]
theorem Ctx.set0 {b : Nat} {r : BitVec 4} {d : Int} {w : World} (h : Ctx b r d w) (r' : BitVec 4) : Ctx b r' d (w.setCell ⟨b, 0, none⟩ (.int .u32 (F r'))) := by
  have hh : w.heap[b]? = _ := h
  show (w.setCell ⟨b, 0, none⟩ (.int .u32 (F r'))).heap[b]? = _
  simp only [World.setCell, Array.getElem?_modify, if_true, hh]; simp
theorem Ctx.set1 {b : Nat} {r : BitVec 4} {d : Int} {w : World} (h : Ctx b r d w) (d' : Int) : Ctx b r d' (w.setCell ⟨b, 1, none⟩ (.int .i32 d')) := by
  have hh : w.heap[b]? = _ := h
  show (w.setCell ⟨b, 1, none⟩ (.int .i32 d')).heap[b]? = _
  simp only [World.setCell, Array.getElem?_modify, if_true, hh]; simp
theorem Ctx.new (w : World) : Ctx w.heap.size 0#4 0 (w.alloc (.cells #[.int .u32 0, .int .i32 0] 34)) := (MapKept.heap_alloc w _).1
theorem Ctx.drew {b : Nat} {r : BitVec 4} {d : Int} {w : World} (h : Ctx b r d w) : Ctx b r d w.drew := h

theorem known_any (n : Int) (w : World) : Calls Try.prog 19 #[.int .i64 n] w fun e w' => e = .returned (.int .u32 (F (L n))) ∧ w = w' := by
  have h1 := and15 n
  have h2 : F (L n) % 4294967296 = F (L n) := by have := F_range (L n); omega
  go_enter Try.func19, Try.ntmps19
  go_wp2
  go_ret
  exact ⟨rfl, rfl⟩
theorem new_any (w : World) : Calls Try.prog 9 #[] w fun e w' => e = .returned (.pointer (some ⟨w.heap.size, 0, none⟩)) ∧ w' = w.alloc (.cells #[.int .u32 0, .int .i32 0] 34) := by
  go_enter Try.func9, Try.ntmps9
  go_wp2
  go_ret
  exact ⟨rfl, rfl⟩
theorem or_any (b : Nat) (r m : BitVec 4) (w : World) (hc : w.cell? ⟨b, 0, none⟩ = some (.int .u32 (F r))) (hz : w.frozen? ⟨b, 0, none⟩ = false) :
    Calls Try.prog 18 #[.pointer (some ⟨b, 0, none⟩), .int .u32 (F m)] w fun e w' => e = .returned (.int .u32 (F r)) ∧ w' = w.setCell ⟨b, 0, none⟩ (.int .u32 (F (r ||| m))) := by
  have hl := run_call_bits (P := Try.prog) .or (fun _ _ _ => rfl) Try.func32 (by kernel_rfl) (by kernel_rfl) (by kernel_rfl) .u32 (by kernel_rfl) (F m) hc hz
  rw [or32] at hl
  go_enter Try.func18, Try.ntmps18
  go_wp2
  go_ret
  exact ⟨rfl, rfl⟩
theorem load_any (b : Nat) (r : BitVec 4) (w : World) (hc : w.cell? ⟨b, 0, none⟩ = some (.int .u32 (F r))) :
    Calls Try.prog 21 #[.pointer (some ⟨b, 0, none⟩)] w fun e w' => e = .returned (.int .u32 (F r)) ∧ w' = w := by
  have hl := run_call_load (P := Try.prog) Try.func34 (by kernel_rfl) (by kernel_rfl) (by kernel_rfl) .u32 (by kernel_rfl) hc
  go_enter Try.func21, Try.ntmps21
  go_wp2
  go_ret
  exact ⟨rfl, rfl⟩
theorem and_any (b : Nat) (r m : BitVec 4) (w : World) (hc : w.cell? ⟨b, 0, none⟩ = some (.int .u32 (F r))) (hz : w.frozen? ⟨b, 0, none⟩ = false) :
    Calls Try.prog 20 #[.pointer (some ⟨b, 0, none⟩), .int .u32 (bits .xor .u32 IntKind.u32.max (F m))] w fun e w' => e = .returned (.int .u32 (F r)) ∧ w' = w.setCell ⟨b, 0, none⟩ (.int .u32 (F (r &&& ~~~ m))) := by
  have hl := run_call_bits (P := Try.prog) .and (fun _ _ _ => rfl) Try.func33 (by kernel_rfl) (by kernel_rfl) (by kernel_rfl) .u32 (by kernel_rfl) (bits .xor .u32 IntKind.u32.max (F m)) hc hz
  rw [notAnd32'] at hl
  go_enter Try.func20, Try.ntmps20
  go_wp2
  go_ret
  exact ⟨rfl, rfl⟩
theorem swap_any (b : Nat) (d n : Int) (w : World) (hc : w.cell? ⟨b, 1, none⟩ = some (.int .i32 d)) (hz : w.frozen? ⟨b, 1, none⟩ = false) :
    Calls Try.prog 22 #[.pointer (some ⟨b, 1, none⟩), .int .i32 n] w fun e w' => e = .returned (.int .i32 d) ∧ w' = w.setCell ⟨b, 1, none⟩ (.int .i32 n) := by
  have hl := run_call_swap (P := Try.prog) Try.func35 (by kernel_rfl) (by kernel_rfl) (by kernel_rfl) .i32 (by kernel_rfl) n hc hz
  go_enter Try.func22, Try.ntmps22
  go_wp2
  go_ret
  exact ⟨rfl, rfl⟩
theorem loadI_any (b : Nat) (d : Int) (w : World) (hc : w.cell? ⟨b, 1, none⟩ = some (.int .i32 d)) :
    Calls Try.prog 23 #[.pointer (some ⟨b, 1, none⟩)] w fun e w' => e = .returned (.int .i32 d) ∧ w' = w := by
  have hl := run_call_load (P := Try.prog) Try.func36 (by kernel_rfl) (by kernel_rfl) (by kernel_rfl) .i32 (by kernel_rfl) hc
  go_enter Try.func23, Try.ntmps23
  go_wp2
  go_ret
  exact ⟨rfl, rfl⟩
end Go.Proofs.Ytjfdmhhglgdfkaa
