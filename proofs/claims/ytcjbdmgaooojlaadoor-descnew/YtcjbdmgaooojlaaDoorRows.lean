/-
  NARROWER THAN 'FOR EVERY INPUT', by the rows' own cells (each row's printed sentence says how): DescTells: laid · DescHolds: laid · DescFits: laid · DescPowers: calm, laid · DescOnce: calm, laid · DescNew: calm, laid.
  DERIVED. THE GIVEN ROWS OF THIS SEAT. 6 by the template 'for every input the law returns true; each argument reads behind the call as it read before'; 0 by the template 'total and deterministic' (their statements: YtcjbdmgaooojlaaDoorTotals.lean).
  GIVEN WITH THE SEED: the statements are not yours to turn. If you find one false, say at which input.
  Laid BY PROGRAM, IN A SANDBOX (cutbox-rows.mjs): the forced cells as the released guide's own fill.sh prints them over the translation 85320552dfa9ad98… (all of the seat's roots in one cut). By AI agents, Wed Nov 11 2026. No macro, syntax, notation, axiom, sorry.
-/
import Derived.Test.YtcjbdmgaooojlaaDoorChecked
import GoSem.Claim
import GoSem.ClaimJoined
import GoSem.ClaimMapViews
import Derived.JoinedTies
import Derived.KernelRfl
namespace Go.Proofs.YtcjbdmgaooojlaaDoor
/- THE CELL 'sum', in the pinned program and in every row, IS THE sha256 OF THE DUMP (.gsa) THAT YtcjbdmgaooojlaaDoorProg.lean LOADS. Nothing in Lean hashes anything: it is a label: what it is worth is what the hold of that sum in a sandbox is worth. -/
noncomputable def Tryd.pinned : Pinned := { name := "ytcjbdmgaooojlaadoor", sum := "85320552dfa9ad98427171e93239aa53d1621ec0aed940ce099ea968c519f4e7", checked := Tryd.checked }
namespace Rows
def none {H : Type} : Left H := { results := [], args := [] }

/- WHAT THE LISTED PACKAGE-LEVEL VARIABLES READ AS WHEN THE CALL BEGINS. Each datum BY PROGRAM (the guide's laid-datum.mjs) off the statement by which the dump's own 'gosem.cut.vars' lays the variable. In a bare row this is a premise. The card (YtcjbdmgaooojlaaDoorCards.lean) ties it to the program's text. -/
def laid_caliper_desc_rows {H : Type} : DataW H := .agg [.agg [.lit (.string [72, 97, 108, 102]), .lit (.int .i64 16), .lit (.int .i64 11), .lit (.int .i64 5)], .agg [.lit (.string [66, 114, 97, 105, 110]), .lit (.int .i64 16), .lit (.int .i64 8), .lit (.int .i64 8)], .agg [.lit (.string [83, 105, 110, 103, 108, 101]), .lit (.int .i64 32), .lit (.int .i64 24), .lit (.int .i64 8)], .agg [.lit (.string [68, 111, 117, 98, 108, 101]), .lit (.int .i64 64), .lit (.int .i64 53), .lit (.int .i64 11)], .agg [.lit (.string [81, 117, 97, 100]), .lit (.int .i64 128), .lit (.int .i64 113), .lit (.int .i64 15)], .agg [.lit (.string [79, 99, 116, 111]), .lit (.int .i64 256), .lit (.int .i64 241), .lit (.int .i64 15)], .agg [.lit (.string [80, 108, 97, 105, 110, 51, 50]), .lit (.int .i64 32), .lit (.int .i64 7), .lit (.int .i64 96)], .agg [.lit (.string [80, 108, 97, 105, 110, 54, 52]), .lit (.int .i64 64), .lit (.int .i64 16), .lit (.int .i64 384)], .agg [.lit (.string [80, 108, 97, 105, 110, 49, 50, 56]), .lit (.int .i64 128), .lit (.int .i64 34), .lit (.int .i64 6144)], .agg [.lit (.string [68, 101, 110, 115, 101, 51, 50]), .lit (.int .i64 32), .lit (.int .i64 7), .lit (.int .i64 96)], .agg [.lit (.string [68, 101, 110, 115, 101, 54, 52]), .lit (.int .i64 64), .lit (.int .i64 16), .lit (.int .i64 384)], .agg [.lit (.string [68, 101, 110, 115, 101, 49, 50, 56]), .lit (.int .i64 128), .lit (.int .i64 34), .lit (.int .i64 6144)]]

/-- 'caliperlaw04.DescTells': WHATEVER THE INPUT: true; the input reads as it did. -/
def descTellsSpec : ChangeSpec := { name := "descTells", fn := fun _ => fun
  | [d] => { results := [.lit (.bool true)], args := [d] }
  | _ => none }
def descTellsRow : OpenClaim := { program := "ytcjbdmgaooojlaadoor", sum := "85320552dfa9ad98427171e93239aa53d1621ec0aed940ce099ea968c519f4e7", func := "caliper/caliperlaw04.DescTells", spec := "descTells", named := ["caliper/desc.rows"], apart := false, laid := [("caliper/desc.rows", laid_caliper_desc_rows)] }
def DescTellsSaid : Prop := descTellsRow.holds Tryd.pinned (OpenSpec.ofChange descTellsSpec)

/-- ITS FALSE NEIGHBOUR: 'it returns false'. Refute it at one input. -/
def descTellsWrong : ChangeSpec := { name := "descTells", fn := fun _ => fun
  | [d] => { results := [.lit (.bool false)], args := [d] }
  | _ => none }
def DescTellsWrongFalsely : Prop := descTellsRow.holds Tryd.pinned (OpenSpec.ofChange descTellsWrong)

/-- 'caliperlaw04.DescHolds': WHATEVER THE INPUT: true; the input reads as it did. -/
def descHoldsSpec : ChangeSpec := { name := "descHolds", fn := fun _ => fun
  | [d1, d2, d3] => { results := [.lit (.bool true)], args := [d1, d2, d3] }
  | _ => none }
def descHoldsRow : OpenClaim := { program := "ytcjbdmgaooojlaadoor", sum := "85320552dfa9ad98427171e93239aa53d1621ec0aed940ce099ea968c519f4e7", func := "caliper/caliperlaw04.DescHolds", spec := "descHolds", named := ["caliper/desc.rows"], apart := false, laid := [("caliper/desc.rows", laid_caliper_desc_rows)] }
def DescHoldsSaid : Prop := descHoldsRow.holds Tryd.pinned (OpenSpec.ofChange descHoldsSpec)

/-- ITS FALSE NEIGHBOUR: 'it returns false'. Refute it at one input. -/
def descHoldsWrong : ChangeSpec := { name := "descHolds", fn := fun _ => fun
  | [d1, d2, d3] => { results := [.lit (.bool false)], args := [d1, d2, d3] }
  | _ => none }
def DescHoldsWrongFalsely : Prop := descHoldsRow.holds Tryd.pinned (OpenSpec.ofChange descHoldsWrong)

/-- 'caliperlaw04.DescFits': WHATEVER THE INPUT: true; the input reads as it did. -/
def descFitsSpec : ChangeSpec := { name := "descFits", fn := fun _ => fun
  | [d1, d2] => { results := [.lit (.bool true)], args := [d1, d2] }
  | _ => none }
def descFitsRow : OpenClaim := { program := "ytcjbdmgaooojlaadoor", sum := "85320552dfa9ad98427171e93239aa53d1621ec0aed940ce099ea968c519f4e7", func := "caliper/caliperlaw04.DescFits", spec := "descFits", named := ["caliper/desc.rows"], apart := false, laid := [("caliper/desc.rows", laid_caliper_desc_rows)] }
def DescFitsSaid : Prop := descFitsRow.holds Tryd.pinned (OpenSpec.ofChange descFitsSpec)

/-- ITS FALSE NEIGHBOUR: 'it returns false'. Refute it at one input. -/
def descFitsWrong : ChangeSpec := { name := "descFits", fn := fun _ => fun
  | [d1, d2] => { results := [.lit (.bool false)], args := [d1, d2] }
  | _ => none }
def DescFitsWrongFalsely : Prop := descFitsRow.holds Tryd.pinned (OpenSpec.ofChange descFitsWrong)

/-- 'caliperlaw04.DescPowers': WHATEVER THE INPUT: true; the input reads as it did. -/
def descPowersSpec : ChangeSpec := { name := "descPowers", fn := fun _ => fun
  | [d1, d2] => { results := [.lit (.bool true)], args := [d1, d2] }
  | _ => none }
def descPowersRow : OpenClaim := { program := "ytcjbdmgaooojlaadoor", sum := "85320552dfa9ad98427171e93239aa53d1621ec0aed940ce099ea968c519f4e7", func := "caliper/caliperlaw04.DescPowers", spec := "descPowers", inPlace := ["math/bits.Add64", "math/bits.Sub64", "sync/atomic.AddInt32", "sync/atomic.LoadUint32", "(*internal/sync.Mutex).Lock", "internal/race.Disable", "sync/atomic.CompareAndSwapInt32", "internal/race.Enable", "internal/race.Acquire", "(*internal/sync.Mutex).lockSlow", "internal/sync.runtime_canSpin", "internal/sync.runtime_doSpin", "internal/sync.throw", "internal/sync.runtime_nanotime", "internal/sync.runtime_SemacquireMutex", "(*internal/sync.Mutex).Unlock", "internal/race.ReleaseMerge", "(*internal/sync.Mutex).unlockSlow", "internal/sync.fatal", "internal/sync.runtime_Semrelease", "sync/atomic.StoreUint32"], unfollowed := true, recurses := true, named := ["caliper/desc.rows"], leaving := true, apart := false, calm := true, outside := [.timePasses], laid := [("caliper/desc.rows", laid_caliper_desc_rows)] }
def DescPowersSaid : Prop := descPowersRow.holds Tryd.pinned (OpenSpec.ofChange descPowersSpec)

/-- ITS FALSE NEIGHBOUR: 'it returns false'. Refute it at one input. -/
def descPowersWrong : ChangeSpec := { name := "descPowers", fn := fun _ => fun
  | [d1, d2] => { results := [.lit (.bool false)], args := [d1, d2] }
  | _ => none }
def DescPowersWrongFalsely : Prop := descPowersRow.holds Tryd.pinned (OpenSpec.ofChange descPowersWrong)

/-- 'caliperlaw04.DescOnce': WHATEVER THE INPUT: true; the input reads as it did. -/
def descOnceSpec : ChangeSpec := { name := "descOnce", fn := fun _ => fun
  | [d1, d2, d3] => { results := [.lit (.bool true)], args := [d1, d2, d3] }
  | _ => none }
def descOnceRow : OpenClaim := { program := "ytcjbdmgaooojlaadoor", sum := "85320552dfa9ad98427171e93239aa53d1621ec0aed940ce099ea968c519f4e7", func := "caliper/caliperlaw04.DescOnce", spec := "descOnce", inPlace := ["sync/atomic.LoadInt32", "math/bits.Add64", "math/bits.Sub64", "sync/atomic.AddInt32", "sync/atomic.LoadUint32", "(*internal/sync.Mutex).Lock", "internal/race.Disable", "sync/atomic.CompareAndSwapInt32", "internal/race.Enable", "internal/race.Acquire", "(*internal/sync.Mutex).lockSlow", "internal/sync.runtime_canSpin", "internal/sync.runtime_doSpin", "internal/sync.throw", "internal/sync.runtime_nanotime", "internal/sync.runtime_SemacquireMutex", "(*internal/sync.Mutex).Unlock", "internal/race.ReleaseMerge", "(*internal/sync.Mutex).unlockSlow", "internal/sync.fatal", "internal/sync.runtime_Semrelease", "sync/atomic.StoreUint32", "(*sync.WaitGroup).Go", "(*sync.WaitGroup).Add", "internal/synctest.IsInBubble", "internal/synctest.Associate[sync.WaitGroup]", "sync.fatal", "sync/atomic.OrUint64", "sync/atomic.AddUint64", "internal/race.Read", "sync/atomic.LoadUint64", "sync/atomic.StoreUint64", "internal/synctest.Disassociate[sync.WaitGroup]", "sync.runtime_Semrelease", "(*sync.WaitGroup).Go$1", "(*sync.WaitGroup).Go$1$1", "(*sync.WaitGroup).Done", "(*sync.WaitGroup).Wait", "internal/synctest.IsAssociated[sync.WaitGroup]", "sync/atomic.CompareAndSwapUint64", "internal/race.Write", "sync.runtime_SemacquireWaitGroup"], unfollowed := true, recurses := true, named := ["caliper/desc.rows"], leaving := true, apart := false, calm := true, outside := [.timePasses], laid := [("caliper/desc.rows", laid_caliper_desc_rows)] }
def DescOnceSaid : Prop := descOnceRow.holds Tryd.pinned (OpenSpec.ofChange descOnceSpec)

/-- ITS FALSE NEIGHBOUR: 'it returns false'. Refute it at one input. -/
def descOnceWrong : ChangeSpec := { name := "descOnce", fn := fun _ => fun
  | [d1, d2, d3] => { results := [.lit (.bool false)], args := [d1, d2, d3] }
  | _ => none }
def DescOnceWrongFalsely : Prop := descOnceRow.holds Tryd.pinned (OpenSpec.ofChange descOnceWrong)

/-- 'caliperlaw04.DescNew': WHATEVER THE INPUT: true; the input reads as it did. -/
def descNewSpec : ChangeSpec := { name := "descNew", fn := fun _ => fun
  | [d1, d2] => { results := [.lit (.bool true)], args := [d1, d2] }
  | _ => none }
def descNewRow : OpenClaim := { program := "ytcjbdmgaooojlaadoor", sum := "85320552dfa9ad98427171e93239aa53d1621ec0aed940ce099ea968c519f4e7", func := "caliper/caliperlaw04.DescNew", spec := "descNew", inPlace := ["math/bits.Add64", "math/bits.Sub64", "sync/atomic.AddInt32", "sync/atomic.LoadUint32", "(*internal/sync.Mutex).Lock", "internal/race.Disable", "sync/atomic.CompareAndSwapInt32", "internal/race.Enable", "internal/race.Acquire", "(*internal/sync.Mutex).lockSlow", "internal/sync.runtime_canSpin", "internal/sync.runtime_doSpin", "internal/sync.throw", "internal/sync.runtime_nanotime", "internal/sync.runtime_SemacquireMutex", "(*internal/sync.Mutex).Unlock", "internal/race.ReleaseMerge", "(*internal/sync.Mutex).unlockSlow", "internal/sync.fatal", "internal/sync.runtime_Semrelease", "sync/atomic.StoreUint32", "sync/atomic.LoadInt32"], unfollowed := true, recurses := true, named := ["caliper/desc.rows"], leaving := true, apart := false, calm := true, outside := [.timePasses], laid := [("caliper/desc.rows", laid_caliper_desc_rows)] }
def DescNewSaid : Prop := descNewRow.holds Tryd.pinned (OpenSpec.ofChange descNewSpec)

/-- ITS FALSE NEIGHBOUR: 'it returns false'. Refute it at one input. -/
def descNewWrong : ChangeSpec := { name := "descNew", fn := fun _ => fun
  | [d1, d2] => { results := [.lit (.bool false)], args := [d1, d2] }
  | _ => none }
def DescNewWrongFalsely : Prop := descNewRow.holds Tryd.pinned (OpenSpec.ofChange descNewWrong)

/- THE SECOND FORM. 'bulk': how many values and letters a reading holds, each counted each time it is reached (what is shared counts as often as it is met; a slice's spare places count too). A statement '..UptoSaid' is the law's where the arguments, and the package variables that the reading takes, are together of bulk at most 1048576: NARROWER than '..Said'. Prove '..Said' where nothing that the law and all that it calls make is longer than what came in: it says more and counts as full. Else prove '..UptoSaid'. A law counts once. -/
mutual
def uptoBulk {H : Type} : DataW H → Nat
  | .lit (.string bytes) => bytes.length + 1
  | .lit _ => 1
  | .nil => 1
  | .ptr d => uptoBulk d + 1
  | .slice elems spare => uptoBulkAll elems + uptoBulkAll spare + 1
  | .agg parts => uptoBulkAll parts + 1
  | .iface _ d => uptoBulk d + 1
  | .map entries => uptoBulkEntries entries + 1
  | .held _ => 1
def uptoBulkAll {H : Type} : List (DataW H) → Nat
  | [] => 0
  | d :: r => uptoBulk d + uptoBulkAll r
def uptoBulkEntries {H : Type} : List (Lit × DataW H) → Nat
  | [] => 0
  | x :: r => uptoBulkEntry x + uptoBulkEntries r
def uptoBulkEntry {H : Type} : Lit × DataW H → Nat
  | (.string bytes, d) => bytes.length + uptoBulk d + 1
  | (_, d) => uptoBulk d + 1
 end
def uptoSmall : (H : Type) → List (DataW H) → Bool := fun _ ds => decide (uptoBulkAll ds ≤ 1048576)
def OpenSpec.upto (s : _root_.Go.ChangeSpec) : _root_.Go.OpenSpec := { _root_.Go.OpenSpec.ofChange s with cond := some uptoSmall }

/-- 'caliperlaw04.DescTells', WHERE WHAT IT READS IS OF BULK AT MOST 1048576: true; the input reads as it did. -/
def descTellsUptoRow : OpenClaim := { program := "ytcjbdmgaooojlaadoor", sum := "85320552dfa9ad98427171e93239aa53d1621ec0aed940ce099ea968c519f4e7", func := "caliper/caliperlaw04.DescTells", spec := "descTells", named := ["caliper/desc.rows"], apart := false, laid := [("caliper/desc.rows", laid_caliper_desc_rows)], narrowed := true }
def DescTellsUptoSaid : Prop := descTellsUptoRow.holds Tryd.pinned (OpenSpec.upto descTellsSpec)

/-- 'caliperlaw04.DescHolds', WHERE WHAT IT READS IS OF BULK AT MOST 1048576: true; the input reads as it did. -/
def descHoldsUptoRow : OpenClaim := { program := "ytcjbdmgaooojlaadoor", sum := "85320552dfa9ad98427171e93239aa53d1621ec0aed940ce099ea968c519f4e7", func := "caliper/caliperlaw04.DescHolds", spec := "descHolds", named := ["caliper/desc.rows"], apart := false, laid := [("caliper/desc.rows", laid_caliper_desc_rows)], narrowed := true }
def DescHoldsUptoSaid : Prop := descHoldsUptoRow.holds Tryd.pinned (OpenSpec.upto descHoldsSpec)

/-- 'caliperlaw04.DescFits', WHERE WHAT IT READS IS OF BULK AT MOST 1048576: true; the input reads as it did. -/
def descFitsUptoRow : OpenClaim := { program := "ytcjbdmgaooojlaadoor", sum := "85320552dfa9ad98427171e93239aa53d1621ec0aed940ce099ea968c519f4e7", func := "caliper/caliperlaw04.DescFits", spec := "descFits", named := ["caliper/desc.rows"], apart := false, laid := [("caliper/desc.rows", laid_caliper_desc_rows)], narrowed := true }
def DescFitsUptoSaid : Prop := descFitsUptoRow.holds Tryd.pinned (OpenSpec.upto descFitsSpec)

end Rows
end Go.Proofs.YtcjbdmgaooojlaaDoor
