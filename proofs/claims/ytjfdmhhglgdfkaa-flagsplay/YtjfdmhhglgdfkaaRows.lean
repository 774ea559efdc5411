/-
  No cell of these rows narrows 'for every input' (looked for: loops, veiled, ifaces, maps, wideKeys, modest, calm, conditions, laid).
  DERIVED. THE GIVEN ROWS OF THIS SEAT. 5 by the template 'for every input the law returns true; each argument reads behind the call as it read before'; 0 by the template 'total and deterministic' (their statements: YtjfdmhhglgdfkaaTotals.lean).
  GIVEN WITH THE SEED: the statements are not yours to turn. If you find one false, say at which input.
  Laid BY PROGRAM, IN A SANDBOX (cutbox-rows.mjs): the forced cells as the released guide's own fill.sh prints them over the translation e1c7a4cc3623e3a5… (all of the seat's roots in one cut). By AI agents, Wed Nov 11 2026. No macro, syntax, notation, axiom, sorry.
-/
import Derived.Test.YtjfdmhhglgdfkaaChecked
import GoSem.Claim
import GoSem.ClaimJoined
import GoSem.ClaimMapViews
import Derived.JoinedTies
import Derived.KernelRfl
namespace Go.Proofs.Ytjfdmhhglgdfkaa
/- THE CELL 'sum', in the pinned program and in every row, IS THE sha256 OF THE DUMP (.gsa) THAT YtjfdmhhglgdfkaaProg.lean LOADS. Nothing in Lean hashes anything: it is a label: what it is worth is what the hold of that sum in a sandbox is worth. -/
noncomputable def Try.pinned : Pinned := { name := "ytjfdmhhglgdfkaa", sum := "e1c7a4cc3623e3a594c5d9a107165355b1e6951f00344e96ca1da9b7aa94bfe6", checked := Try.checked }
namespace Rows
def none {H : Type} : Left H := { results := [], args := [] }

/-- 'caliperlaw03.FlagsPlay': WHATEVER THE INPUT: true; the input reads as it did. -/
def flagsPlaySpec : ChangeSpec := { name := "flagsPlay", fn := fun _ => fun
  | [d1, d2] => { results := [.lit (.bool true)], args := [d1, d2] }
  | _ => none }
def flagsPlayRow : OpenClaim := { program := "ytjfdmhhglgdfkaa", sum := "e1c7a4cc3623e3a594c5d9a107165355b1e6951f00344e96ca1da9b7aa94bfe6", func := "caliper/caliperlaw03.FlagsPlay", spec := "flagsPlay", inPlace := ["sync/atomic.OrUint32", "sync/atomic.LoadUint32", "sync/atomic.AndUint32", "sync/atomic.SwapInt32", "sync/atomic.LoadInt32"], apart := false }
def FlagsPlaySaid : Prop := flagsPlayRow.holds Try.pinned (OpenSpec.ofChange flagsPlaySpec)

/-- ITS FALSE NEIGHBOUR: 'it returns false'. Refute it at one input. -/
def flagsPlayWrong : ChangeSpec := { name := "flagsPlay", fn := fun _ => fun
  | [d1, d2] => { results := [.lit (.bool false)], args := [d1, d2] }
  | _ => none }
def FlagsPlayWrongFalsely : Prop := flagsPlayRow.holds Try.pinned (OpenSpec.ofChange flagsPlayWrong)

/-- 'caliperlaw03.FlagsStay': WHATEVER THE INPUT: true; the input reads as it did. -/
def flagsStaySpec : ChangeSpec := { name := "flagsStay", fn := fun _ => fun
  | [d1, d2] => { results := [.lit (.bool true)], args := [d1, d2] }
  | _ => none }
def flagsStayRow : OpenClaim := { program := "ytjfdmhhglgdfkaa", sum := "e1c7a4cc3623e3a594c5d9a107165355b1e6951f00344e96ca1da9b7aa94bfe6", func := "caliper/caliperlaw03.FlagsStay", spec := "flagsStay", inPlace := ["sync/atomic.OrUint32", "sync/atomic.LoadUint32", "sync/atomic.AndUint32"], apart := false }
def FlagsStaySaid : Prop := flagsStayRow.holds Try.pinned (OpenSpec.ofChange flagsStaySpec)

/-- ITS FALSE NEIGHBOUR: 'it returns false'. Refute it at one input. -/
def flagsStayWrong : ChangeSpec := { name := "flagsStay", fn := fun _ => fun
  | [d1, d2] => { results := [.lit (.bool false)], args := [d1, d2] }
  | _ => none }
def FlagsStayWrongFalsely : Prop := flagsStayRow.holds Try.pinned (OpenSpec.ofChange flagsStayWrong)

/-- 'caliperlaw03.FlagsTogether': WHATEVER THE INPUT: true; the input reads as it did. -/
def flagsTogetherSpec : ChangeSpec := { name := "flagsTogether", fn := fun _ => fun
  | [d1, d2] => { results := [.lit (.bool true)], args := [d1, d2] }
  | _ => none }
def flagsTogetherRow : OpenClaim := { program := "ytjfdmhhglgdfkaa", sum := "e1c7a4cc3623e3a594c5d9a107165355b1e6951f00344e96ca1da9b7aa94bfe6", func := "caliper/caliperlaw03.FlagsTogether", spec := "flagsTogether", inPlace := ["sync/atomic.OrUint32", "sync/atomic.LoadUint32", "sync/atomic.AndUint32", "(*sync.WaitGroup).Go", "(*sync.WaitGroup).Add", "internal/race.ReleaseMerge", "internal/race.Disable", "internal/race.Enable", "internal/synctest.IsInBubble", "internal/synctest.Associate[sync.WaitGroup]", "sync.fatal", "sync/atomic.OrUint64", "sync/atomic.AddUint64", "internal/race.Read", "sync/atomic.LoadUint64", "sync/atomic.StoreUint64", "internal/synctest.Disassociate[sync.WaitGroup]", "sync.runtime_Semrelease", "(*sync.WaitGroup).Go$1", "(*sync.WaitGroup).Go$1$1", "(*sync.WaitGroup).Done", "(*sync.WaitGroup).Wait", "internal/race.Acquire", "internal/synctest.IsAssociated[sync.WaitGroup]", "sync/atomic.CompareAndSwapUint64", "internal/race.Write", "sync.runtime_SemacquireWaitGroup"], unfollowed := true, recurses := true, leaving := true, apart := false }
def FlagsTogetherSaid : Prop := flagsTogetherRow.holds Try.pinned (OpenSpec.ofChange flagsTogetherSpec)

/-- ITS FALSE NEIGHBOUR: 'it returns false'. Refute it at one input. -/
def flagsTogetherWrong : ChangeSpec := { name := "flagsTogether", fn := fun _ => fun
  | [d1, d2] => { results := [.lit (.bool false)], args := [d1, d2] }
  | _ => none }
def FlagsTogetherWrongFalsely : Prop := flagsTogetherRow.holds Try.pinned (OpenSpec.ofChange flagsTogetherWrong)

/-- 'caliperlaw03.FlagsShare': WHATEVER THE INPUT: true; the input reads as it did. -/
def flagsShareSpec : ChangeSpec := { name := "flagsShare", fn := fun _ => fun
  | [d1, d2, d3] => { results := [.lit (.bool true)], args := [d1, d2, d3] }
  | _ => none }
def flagsShareRow : OpenClaim := { program := "ytjfdmhhglgdfkaa", sum := "e1c7a4cc3623e3a594c5d9a107165355b1e6951f00344e96ca1da9b7aa94bfe6", func := "caliper/caliperlaw03.FlagsShare", spec := "flagsShare", inPlace := ["sync/atomic.OrUint32", "sync/atomic.LoadUint32", "sync/atomic.AndUint32", "(*sync.WaitGroup).Go", "(*sync.WaitGroup).Add", "internal/race.ReleaseMerge", "internal/race.Disable", "internal/race.Enable", "internal/synctest.IsInBubble", "internal/synctest.Associate[sync.WaitGroup]", "sync.fatal", "sync/atomic.OrUint64", "sync/atomic.AddUint64", "internal/race.Read", "sync/atomic.LoadUint64", "sync/atomic.StoreUint64", "internal/synctest.Disassociate[sync.WaitGroup]", "sync.runtime_Semrelease", "(*sync.WaitGroup).Go$1", "(*sync.WaitGroup).Go$1$1", "(*sync.WaitGroup).Done", "(*sync.WaitGroup).Wait", "internal/race.Acquire", "internal/synctest.IsAssociated[sync.WaitGroup]", "sync/atomic.CompareAndSwapUint64", "internal/race.Write", "sync.runtime_SemacquireWaitGroup"], unfollowed := true, recurses := true, leaving := true, apart := false }
def FlagsShareSaid : Prop := flagsShareRow.holds Try.pinned (OpenSpec.ofChange flagsShareSpec)

/-- ITS FALSE NEIGHBOUR: 'it returns false'. Refute it at one input. -/
def flagsShareWrong : ChangeSpec := { name := "flagsShare", fn := fun _ => fun
  | [d1, d2, d3] => { results := [.lit (.bool false)], args := [d1, d2, d3] }
  | _ => none }
def FlagsShareWrongFalsely : Prop := flagsShareRow.holds Try.pinned (OpenSpec.ofChange flagsShareWrong)

/-- 'caliperlaw03.FlagsNil': WHATEVER THE INPUT: true; the input reads as it did. -/
def flagsNilSpec : ChangeSpec := { name := "flagsNil", fn := fun _ => fun
  | [d] => { results := [.lit (.bool true)], args := [d] }
  | _ => none }
def flagsNilRow : OpenClaim := { program := "ytjfdmhhglgdfkaa", sum := "e1c7a4cc3623e3a594c5d9a107165355b1e6951f00344e96ca1da9b7aa94bfe6", func := "caliper/caliperlaw03.FlagsNil", spec := "flagsNil", inPlace := ["sync/atomic.OrUint32", "sync/atomic.LoadUint32", "sync/atomic.AndUint32", "sync/atomic.SwapInt32", "(*sync.WaitGroup).Go", "(*sync.WaitGroup).Add", "internal/race.ReleaseMerge", "internal/race.Disable", "internal/race.Enable", "internal/synctest.IsInBubble", "internal/synctest.Associate[sync.WaitGroup]", "sync.fatal", "sync/atomic.OrUint64", "sync/atomic.AddUint64", "internal/race.Read", "sync/atomic.LoadUint64", "sync/atomic.StoreUint64", "internal/synctest.Disassociate[sync.WaitGroup]", "sync.runtime_Semrelease", "(*sync.WaitGroup).Go$1", "(*sync.WaitGroup).Go$1$1", "(*sync.WaitGroup).Done", "(*sync.WaitGroup).Wait", "internal/race.Acquire", "internal/synctest.IsAssociated[sync.WaitGroup]", "sync/atomic.CompareAndSwapUint64", "internal/race.Write", "sync.runtime_SemacquireWaitGroup", "sync/atomic.LoadInt32"], unfollowed := true, recurses := true, leaving := true, apart := false }
def FlagsNilSaid : Prop := flagsNilRow.holds Try.pinned (OpenSpec.ofChange flagsNilSpec)

/-- ITS FALSE NEIGHBOUR: 'it returns false'. Refute it at one input. -/
def flagsNilWrong : ChangeSpec := { name := "flagsNil", fn := fun _ => fun
  | [d] => { results := [.lit (.bool false)], args := [d] }
  | _ => none }
def FlagsNilWrongFalsely : Prop := flagsNilRow.holds Try.pinned (OpenSpec.ofChange flagsNilWrong)

/- THE SECOND FORM. 'bulk': how many values and letters a reading holds, each counted each time it is reached (what is shared counts as often as it is met; a slice's spare places count too). A statement '..UptoSaid' is the law's where the arguments, and the package variables that the reading takes, are together of bulk at most 1048576: NARROWER than '..Said'. Prove '..Said' where nothing that the law and all that it calls make is longer than what came in: it says more and counts as full. Else prove '..UptoSaid'. A law counts once. -/
mutual
def uptoBulk {H : Type} : DataW H → Nat
  | .lit (.string bytes) => bytes.length + 1
  | .lit _ => 1
  | .nil => 1
  | .ptr d => uptoBulk d + 1
  | .slice elems spare => uptoBulkAll elems + uptoBulkAll spare + 1
  | .agg parts => uptoBulkAll parts + 1
  | .iface _ d => uptoBulk d + 1
  | .map entries => uptoBulkEntries entries + 1
  | .held _ => 1
def uptoBulkAll {H : Type} : List (DataW H) → Nat
  | [] => 0
  | d :: r => uptoBulk d + uptoBulkAll r
def uptoBulkEntries {H : Type} : List (Lit × DataW H) → Nat
  | [] => 0
  | x :: r => uptoBulkEntry x + uptoBulkEntries r
def uptoBulkEntry {H : Type} : Lit × DataW H → Nat
  | (.string bytes, d) => bytes.length + uptoBulk d + 1
  | (_, d) => uptoBulk d + 1
 end
def uptoSmall : (H : Type) → List (DataW H) → Bool := fun _ ds => decide (uptoBulkAll ds ≤ 1048576)
def OpenSpec.upto (s : _root_.Go.ChangeSpec) : _root_.Go.OpenSpec := { _root_.Go.OpenSpec.ofChange s with cond := some uptoSmall }

/-- 'caliperlaw03.FlagsPlay', WHERE WHAT IT READS IS OF BULK AT MOST 1048576: true; the input reads as it did. -/
def flagsPlayUptoRow : OpenClaim := { program := "ytjfdmhhglgdfkaa", sum := "e1c7a4cc3623e3a594c5d9a107165355b1e6951f00344e96ca1da9b7aa94bfe6", func := "caliper/caliperlaw03.FlagsPlay", spec := "flagsPlay", inPlace := ["sync/atomic.OrUint32", "sync/atomic.LoadUint32", "sync/atomic.AndUint32", "sync/atomic.SwapInt32", "sync/atomic.LoadInt32"], apart := false, narrowed := true }
def FlagsPlayUptoSaid : Prop := flagsPlayUptoRow.holds Try.pinned (OpenSpec.upto flagsPlaySpec)

/-- 'caliperlaw03.FlagsStay', WHERE WHAT IT READS IS OF BULK AT MOST 1048576: true; the input reads as it did. -/
def flagsStayUptoRow : OpenClaim := { program := "ytjfdmhhglgdfkaa", sum := "e1c7a4cc3623e3a594c5d9a107165355b1e6951f00344e96ca1da9b7aa94bfe6", func := "caliper/caliperlaw03.FlagsStay", spec := "flagsStay", inPlace := ["sync/atomic.OrUint32", "sync/atomic.LoadUint32", "sync/atomic.AndUint32"], apart := false, narrowed := true }
def FlagsStayUptoSaid : Prop := flagsStayUptoRow.holds Try.pinned (OpenSpec.upto flagsStaySpec)

/-- 'caliperlaw03.FlagsTogether', WHERE WHAT IT READS IS OF BULK AT MOST 1048576: true; the input reads as it did. -/
def flagsTogetherUptoRow : OpenClaim := { program := "ytjfdmhhglgdfkaa", sum := "e1c7a4cc3623e3a594c5d9a107165355b1e6951f00344e96ca1da9b7aa94bfe6", func := "caliper/caliperlaw03.FlagsTogether", spec := "flagsTogether", inPlace := ["sync/atomic.OrUint32", "sync/atomic.LoadUint32", "sync/atomic.AndUint32", "(*sync.WaitGroup).Go", "(*sync.WaitGroup).Add", "internal/race.ReleaseMerge", "internal/race.Disable", "internal/race.Enable", "internal/synctest.IsInBubble", "internal/synctest.Associate[sync.WaitGroup]", "sync.fatal", "sync/atomic.OrUint64", "sync/atomic.AddUint64", "internal/race.Read", "sync/atomic.LoadUint64", "sync/atomic.StoreUint64", "internal/synctest.Disassociate[sync.WaitGroup]", "sync.runtime_Semrelease", "(*sync.WaitGroup).Go$1", "(*sync.WaitGroup).Go$1$1", "(*sync.WaitGroup).Done", "(*sync.WaitGroup).Wait", "internal/race.Acquire", "internal/synctest.IsAssociated[sync.WaitGroup]", "sync/atomic.CompareAndSwapUint64", "internal/race.Write", "sync.runtime_SemacquireWaitGroup"], unfollowed := true, recurses := true, leaving := true, apart := false, narrowed := true }
def FlagsTogetherUptoSaid : Prop := flagsTogetherUptoRow.holds Try.pinned (OpenSpec.upto flagsTogetherSpec)

/-- 'caliperlaw03.FlagsShare', WHERE WHAT IT READS IS OF BULK AT MOST 1048576: true; the input reads as it did. -/
def flagsShareUptoRow : OpenClaim := { program := "ytjfdmhhglgdfkaa", sum := "e1c7a4cc3623e3a594c5d9a107165355b1e6951f00344e96ca1da9b7aa94bfe6", func := "caliper/caliperlaw03.FlagsShare", spec := "flagsShare", inPlace := ["sync/atomic.OrUint32", "sync/atomic.LoadUint32", "sync/atomic.AndUint32", "(*sync.WaitGroup).Go", "(*sync.WaitGroup).Add", "internal/race.ReleaseMerge", "internal/race.Disable", "internal/race.Enable", "internal/synctest.IsInBubble", "internal/synctest.Associate[sync.WaitGroup]", "sync.fatal", "sync/atomic.OrUint64", "sync/atomic.AddUint64", "internal/race.Read", "sync/atomic.LoadUint64", "sync/atomic.StoreUint64", "internal/synctest.Disassociate[sync.WaitGroup]", "sync.runtime_Semrelease", "(*sync.WaitGroup).Go$1", "(*sync.WaitGroup).Go$1$1", "(*sync.WaitGroup).Done", "(*sync.WaitGroup).Wait", "internal/race.Acquire", "internal/synctest.IsAssociated[sync.WaitGroup]", "sync/atomic.CompareAndSwapUint64", "internal/race.Write", "sync.runtime_SemacquireWaitGroup"], unfollowed := true, recurses := true, leaving := true, apart := false, narrowed := true }
def FlagsShareUptoSaid : Prop := flagsShareUptoRow.holds Try.pinned (OpenSpec.upto flagsShareSpec)

/-- 'caliperlaw03.FlagsNil', WHERE WHAT IT READS IS OF BULK AT MOST 1048576: true; the input reads as it did. -/
def flagsNilUptoRow : OpenClaim := { program := "ytjfdmhhglgdfkaa", sum := "e1c7a4cc3623e3a594c5d9a107165355b1e6951f00344e96ca1da9b7aa94bfe6", func := "caliper/caliperlaw03.FlagsNil", spec := "flagsNil", inPlace := ["sync/atomic.OrUint32", "sync/atomic.LoadUint32", "sync/atomic.AndUint32", "sync/atomic.SwapInt32", "(*sync.WaitGroup).Go", "(*sync.WaitGroup).Add", "internal/race.ReleaseMerge", "internal/race.Disable", "internal/race.Enable", "internal/synctest.IsInBubble", "internal/synctest.Associate[sync.WaitGroup]", "sync.fatal", "sync/atomic.OrUint64", "sync/atomic.AddUint64", "internal/race.Read", "sync/atomic.LoadUint64", "sync/atomic.StoreUint64", "internal/synctest.Disassociate[sync.WaitGroup]", "sync.runtime_Semrelease", "(*sync.WaitGroup).Go$1", "(*sync.WaitGroup).Go$1$1", "(*sync.WaitGroup).Done", "(*sync.WaitGroup).Wait", "internal/race.Acquire", "internal/synctest.IsAssociated[sync.WaitGroup]", "sync/atomic.CompareAndSwapUint64", "internal/race.Write", "sync.runtime_SemacquireWaitGroup", "sync/atomic.LoadInt32"], unfollowed := true, recurses := true, leaving := true, apart := false, narrowed := true }
def FlagsNilUptoSaid : Prop := flagsNilUptoRow.holds Try.pinned (OpenSpec.upto flagsNilSpec)

end Rows
end Go.Proofs.Ytjfdmhhglgdfkaa
