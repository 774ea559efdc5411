/-
  Texts that the proof leans on.
-/
import Derived.Laws.Externs
import Derived.Test.YtpemdcnneabbfaaGreatDoorProg
import Derived.KernelRfl
import Derived.RowKit
set_option linter.unusedVariables false
set_option linter.unusedSectionVars false
set_option linter.unusedSimpArgs false
set_option maxRecDepth 20000
namespace Go.Proofs.YtpemdcnneabbfaaGreatDoor
open Go.RowKit
theorem run_b64 (b : Nat) (w : World) : Sem.run Tryz.prog (callFunc 10 #[.float .f64 b]) w = .ok (.value (.int .u64 (b : Int))) w :=
  (run_callFunc_extern (e := Extern.MathFloatBits.float64bits) Tryz.func10 (by kernel_rfl) (by kernel_rfl) (by kernel_rfl) (by kernel_rfl) _ w).trans rfl
theorem run_b32 (b : Nat) (w : World) : Sem.run Tryz.prog (callFunc 9 #[.float .f32 b]) w = .ok (.value (.int .u32 (b : Int))) w :=
  (run_callFunc_extern (e := Extern.MathFloatBits.float32bits) Tryz.func9 (by kernel_rfl) (by kernel_rfl) (by kernel_rfl) (by kernel_rfl) _ w).trans rfl
theorem run_f32 (b : Int) (w : World) : Sem.run Tryz.prog (callFunc 53 #[.int .u32 b]) w = .ok (.value (.float .f32 b.toNat)) w :=
  (run_callFunc_extern (e := Extern.MathFloatBits.float32frombits) Tryz.func53 (by kernel_rfl) (by kernel_rfl) (by kernel_rfl) (by kernel_rfl) _ w).trans rfl
end Go.Proofs.YtpemdcnneabbfaaGreatDoor
