/-
  No cell of these rows narrows 'for every input' (looked for: loops, veiled, ifaces, maps, wideKeys, modest, calm, conditions, laid).
  DERIVED. THE GIVEN ROWS OF THIS SEAT. 5 by the template 'for every input the law returns true; each argument reads behind the call as it read before'; 0 by the template 'total and deterministic' (their statements: YtigpgnjgmaoejaaGreatTotals.lean).
  GIVEN WITH THE SEED: the statements are not yours to turn. If you find one false, say at which input.
  Laid BY PROGRAM, IN A SANDBOX (cutbox-rows.mjs): the forced cells as the released guide's own fill.sh prints them over the translation 003d3e82fc571260… (all of the seat's roots in one cut). By AI agents, Wed Nov 11 2026. No macro, syntax, notation, axiom, sorry.
-/
import Derived.Test.YtigpgnjgmaoejaaGreatChecked
import GoSem.Claim
import GoSem.ClaimJoined
import GoSem.ClaimMapViews
import Derived.JoinedTies
import Derived.KernelRfl
namespace Go.Proofs.YtigpgnjgmaoejaaGreat
/- THE CELL 'sum', in the pinned program and in every row, IS THE sha256 OF THE DUMP (.gsa) THAT YtigpgnjgmaoejaaGreatProg.lean LOADS. Nothing in Lean hashes anything: it is a label: what it is worth is what the hold of that sum in a sandbox is worth. -/
noncomputable def Tryz.pinned : Pinned := { name := "ytigpgnjgmaoejaagreat", sum := "003d3e82fc571260ac685f32ea6fd3a0905557d4565d9e5367cf86e8dce4d3b0", checked := Tryz.checked }
namespace Rows
def none {H : Type} : Left H := { results := [], args := [] }

/-- 'pitlaw.Gathers': WHATEVER THE INPUT: true; the input reads as it did. -/
def gathersSpec : ChangeSpec := { name := "gathers", fn := fun _ => fun
  | [d] => { results := [.lit (.bool true)], args := [d] }
  | _ => none }
def gathersRow : OpenClaim := { program := "ytigpgnjgmaoejaagreat", sum := "003d3e82fc571260ac685f32ea6fd3a0905557d4565d9e5367cf86e8dce4d3b0", func := "pit/pitlaw.Gathers", spec := "gathers", inPlace := ["sync/atomic.AddInt64", "slices.overlaps[pit/api.Order]", "sync/atomic.LoadInt64", "(*sync.WaitGroup).Wait", "internal/race.Disable", "sync/atomic.LoadUint64", "internal/race.Enable", "internal/race.Acquire", "internal/synctest.IsAssociated[sync.WaitGroup]", "sync/atomic.CompareAndSwapUint64", "internal/synctest.Disassociate[sync.WaitGroup]", "internal/race.Write", "internal/synctest.IsInBubble", "sync.runtime_SemacquireWaitGroup", "(*sync.WaitGroup).Add", "internal/race.ReleaseMerge", "internal/synctest.Associate[sync.WaitGroup]", "sync.fatal", "sync/atomic.OrUint64", "sync/atomic.AddUint64", "internal/race.Read", "sync/atomic.StoreUint64", "sync.runtime_Semrelease", "(*sync.WaitGroup).Done"], unfollowed := true, recurses := true, leaving := true, apart := false }
def GathersSaid : Prop := gathersRow.holds Tryz.pinned (OpenSpec.ofChange gathersSpec)

/-- ITS FALSE NEIGHBOUR: 'it returns false'. Refute it at one input. -/
def gathersWrong : ChangeSpec := { name := "gathers", fn := fun _ => fun
  | [d] => { results := [.lit (.bool false)], args := [d] }
  | _ => none }
def GathersWrongFalsely : Prop := gathersRow.holds Tryz.pinned (OpenSpec.ofChange gathersWrong)

/-- 'pitlaw.Trades': WHATEVER THE INPUT: true; the input reads as it did. -/
def tradesSpec : ChangeSpec := { name := "trades", fn := fun _ => fun
  | [d] => { results := [.lit (.bool true)], args := [d] }
  | _ => none }
def tradesRow : OpenClaim := { program := "ytigpgnjgmaoejaagreat", sum := "003d3e82fc571260ac685f32ea6fd3a0905557d4565d9e5367cf86e8dce4d3b0", func := "pit/pitlaw.Trades", spec := "trades", inPlace := ["sync/atomic.AddInt64", "slices.overlaps[pit/api.Order]", "sync/atomic.LoadInt64", "(*sync.WaitGroup).Wait", "internal/race.Disable", "sync/atomic.LoadUint64", "internal/race.Enable", "internal/race.Acquire", "internal/synctest.IsAssociated[sync.WaitGroup]", "sync/atomic.CompareAndSwapUint64", "internal/synctest.Disassociate[sync.WaitGroup]", "internal/race.Write", "internal/synctest.IsInBubble", "sync.runtime_SemacquireWaitGroup", "(*sync.WaitGroup).Add", "internal/race.ReleaseMerge", "internal/synctest.Associate[sync.WaitGroup]", "sync.fatal", "sync/atomic.OrUint64", "sync/atomic.AddUint64", "internal/race.Read", "sync/atomic.StoreUint64", "sync.runtime_Semrelease", "(*sync.WaitGroup).Done"], unfollowed := true, recurses := true, leaving := true, apart := false }
def TradesSaid : Prop := tradesRow.holds Tryz.pinned (OpenSpec.ofChange tradesSpec)

/-- ITS FALSE NEIGHBOUR: 'it returns false'. Refute it at one input. -/
def tradesWrong : ChangeSpec := { name := "trades", fn := fun _ => fun
  | [d] => { results := [.lit (.bool false)], args := [d] }
  | _ => none }
def TradesWrongFalsely : Prop := tradesRow.holds Tryz.pinned (OpenSpec.ofChange tradesWrong)

/-- 'pitlaw.Runs': WHATEVER THE INPUT: true; the input reads as it did. -/
def runsSpec : ChangeSpec := { name := "runs", fn := fun _ => fun
  | [d] => { results := [.lit (.bool true)], args := [d] }
  | _ => none }
def runsRow : OpenClaim := { program := "ytigpgnjgmaoejaagreat", sum := "003d3e82fc571260ac685f32ea6fd3a0905557d4565d9e5367cf86e8dce4d3b0", func := "pit/pitlaw.Runs", spec := "runs", inPlace := ["sync/atomic.AddInt64", "slices.overlaps[pit/api.Order]", "sync/atomic.LoadInt64", "(*sync.WaitGroup).Wait", "internal/race.Disable", "sync/atomic.LoadUint64", "internal/race.Enable", "internal/race.Acquire", "internal/synctest.IsAssociated[sync.WaitGroup]", "sync/atomic.CompareAndSwapUint64", "internal/synctest.Disassociate[sync.WaitGroup]", "internal/race.Write", "internal/synctest.IsInBubble", "sync.runtime_SemacquireWaitGroup", "(*sync.WaitGroup).Add", "internal/race.ReleaseMerge", "internal/synctest.Associate[sync.WaitGroup]", "sync.fatal", "sync/atomic.OrUint64", "sync/atomic.AddUint64", "internal/race.Read", "sync/atomic.StoreUint64", "sync.runtime_Semrelease", "(*sync.WaitGroup).Done"], unfollowed := true, recurses := true, leaving := true, apart := false }
def RunsSaid : Prop := runsRow.holds Tryz.pinned (OpenSpec.ofChange runsSpec)

/-- ITS FALSE NEIGHBOUR: 'it returns false'. Refute it at one input. -/
def runsWrong : ChangeSpec := { name := "runs", fn := fun _ => fun
  | [d] => { results := [.lit (.bool false)], args := [d] }
  | _ => none }
def RunsWrongFalsely : Prop := runsRow.holds Tryz.pinned (OpenSpec.ofChange runsWrong)

/-- 'pitkeep.Together': WHATEVER THE INPUT: true; the input reads as it did. -/
def togetherSpec : ChangeSpec := { name := "together", fn := fun _ => fun
  | [d1, d2] => { results := [.lit (.bool true)], args := [d1, d2] }
  | _ => none }
def togetherRow : OpenClaim := { program := "ytigpgnjgmaoejaagreat", sum := "003d3e82fc571260ac685f32ea6fd3a0905557d4565d9e5367cf86e8dce4d3b0", func := "pit/pitkeep.Together", spec := "together", inPlace := ["sync/atomic.AddInt64", "slices.overlaps[pit/api.Order]", "sync/atomic.LoadInt64", "(*sync.WaitGroup).Wait", "internal/race.Disable", "sync/atomic.LoadUint64", "internal/race.Enable", "internal/race.Acquire", "internal/synctest.IsAssociated[sync.WaitGroup]", "sync/atomic.CompareAndSwapUint64", "internal/synctest.Disassociate[sync.WaitGroup]", "internal/race.Write", "internal/synctest.IsInBubble", "sync.runtime_SemacquireWaitGroup", "(*sync.WaitGroup).Add", "internal/race.ReleaseMerge", "internal/synctest.Associate[sync.WaitGroup]", "sync.fatal", "sync/atomic.OrUint64", "sync/atomic.AddUint64", "internal/race.Read", "sync/atomic.StoreUint64", "sync.runtime_Semrelease", "(*sync.WaitGroup).Done"], unfollowed := true, recurses := true, leaving := true, apart := false }
def TogetherSaid : Prop := togetherRow.holds Tryz.pinned (OpenSpec.ofChange togetherSpec)

/-- ITS FALSE NEIGHBOUR: 'it returns false'. Refute it at one input. -/
def togetherWrong : ChangeSpec := { name := "together", fn := fun _ => fun
  | [d1, d2] => { results := [.lit (.bool false)], args := [d1, d2] }
  | _ => none }
def TogetherWrongFalsely : Prop := togetherRow.holds Tryz.pinned (OpenSpec.ofChange togetherWrong)

/-- 'pitlaw.All': WHATEVER THE INPUT: true; the input reads as it did. -/
def allSpec : ChangeSpec := { name := "all", fn := fun _ => fun
  | [d] => { results := [.lit (.bool true)], args := [d] }
  | _ => none }
def allRow : OpenClaim := { program := "ytigpgnjgmaoejaagreat", sum := "003d3e82fc571260ac685f32ea6fd3a0905557d4565d9e5367cf86e8dce4d3b0", func := "pit/pitlaw.All", spec := "all", inPlace := ["sync/atomic.AddInt64", "slices.overlaps[pit/api.Order]", "sync/atomic.LoadInt64", "(*sync.WaitGroup).Wait", "internal/race.Disable", "sync/atomic.LoadUint64", "internal/race.Enable", "internal/race.Acquire", "internal/synctest.IsAssociated[sync.WaitGroup]", "sync/atomic.CompareAndSwapUint64", "internal/synctest.Disassociate[sync.WaitGroup]", "internal/race.Write", "internal/synctest.IsInBubble", "sync.runtime_SemacquireWaitGroup", "(*sync.WaitGroup).Add", "internal/race.ReleaseMerge", "internal/synctest.Associate[sync.WaitGroup]", "sync.fatal", "sync/atomic.OrUint64", "sync/atomic.AddUint64", "internal/race.Read", "sync/atomic.StoreUint64", "sync.runtime_Semrelease", "(*sync.WaitGroup).Done"], unfollowed := true, recurses := true, leaving := true, apart := false }
def AllSaid : Prop := allRow.holds Tryz.pinned (OpenSpec.ofChange allSpec)

/-- ITS FALSE NEIGHBOUR: 'it returns false'. Refute it at one input. -/
def allWrong : ChangeSpec := { name := "all", fn := fun _ => fun
  | [d] => { results := [.lit (.bool false)], args := [d] }
  | _ => none }
def AllWrongFalsely : Prop := allRow.holds Tryz.pinned (OpenSpec.ofChange allWrong)

/- THE SECOND FORM. 'bulk': how many values and letters a reading holds, each counted each time it is reached (what is shared counts as often as it is met; a slice's spare places count too). A statement '..UptoSaid' is the law's where the arguments, and the package variables that the reading takes, are together of bulk at most 1048576: NARROWER than '..Said'. Prove '..Said' where nothing that the law and all that it calls make is longer than what came in: it says more and counts as full. Else prove '..UptoSaid'. A law counts once. -/
mutual
def uptoBulk {H : Type} : DataW H → Nat
  | .lit (.string bytes) => bytes.length + 1
  | .lit _ => 1
  | .nil => 1
  | .ptr d => uptoBulk d + 1
  | .slice elems spare => uptoBulkAll elems + uptoBulkAll spare + 1
  | .agg parts => uptoBulkAll parts + 1
  | .iface _ d => uptoBulk d + 1
  | .map entries => uptoBulkEntries entries + 1
  | .held _ => 1
def uptoBulkAll {H : Type} : List (DataW H) → Nat
  | [] => 0
  | d :: r => uptoBulk d + uptoBulkAll r
def uptoBulkEntries {H : Type} : List (Lit × DataW H) → Nat
  | [] => 0
  | x :: r => uptoBulkEntry x + uptoBulkEntries r
def uptoBulkEntry {H : Type} : Lit × DataW H → Nat
  | (.string bytes, d) => bytes.length + uptoBulk d + 1
  | (_, d) => uptoBulk d + 1
 end
def uptoSmall : (H : Type) → List (DataW H) → Bool := fun _ ds => decide (uptoBulkAll ds ≤ 1048576)
def OpenSpec.upto (s : _root_.Go.ChangeSpec) : _root_.Go.OpenSpec := { _root_.Go.OpenSpec.ofChange s with cond := some uptoSmall }

/-- 'pitlaw.Gathers', WHERE WHAT IT READS IS OF BULK AT MOST 1048576: true; the input reads as it did. -/
def gathersUptoRow : OpenClaim := { program := "ytigpgnjgmaoejaagreat", sum := "003d3e82fc571260ac685f32ea6fd3a0905557d4565d9e5367cf86e8dce4d3b0", func := "pit/pitlaw.Gathers", spec := "gathers", inPlace := ["sync/atomic.AddInt64", "slices.overlaps[pit/api.Order]", "sync/atomic.LoadInt64", "(*sync.WaitGroup).Wait", "internal/race.Disable", "sync/atomic.LoadUint64", "internal/race.Enable", "internal/race.Acquire", "internal/synctest.IsAssociated[sync.WaitGroup]", "sync/atomic.CompareAndSwapUint64", "internal/synctest.Disassociate[sync.WaitGroup]", "internal/race.Write", "internal/synctest.IsInBubble", "sync.runtime_SemacquireWaitGroup", "(*sync.WaitGroup).Add", "internal/race.ReleaseMerge", "internal/synctest.Associate[sync.WaitGroup]", "sync.fatal", "sync/atomic.OrUint64", "sync/atomic.AddUint64", "internal/race.Read", "sync/atomic.StoreUint64", "sync.runtime_Semrelease", "(*sync.WaitGroup).Done"], unfollowed := true, recurses := true, leaving := true, apart := false, narrowed := true }
def GathersUptoSaid : Prop := gathersUptoRow.holds Tryz.pinned (OpenSpec.upto gathersSpec)

/-- 'pitlaw.Trades', WHERE WHAT IT READS IS OF BULK AT MOST 1048576: true; the input reads as it did. -/
def tradesUptoRow : OpenClaim := { program := "ytigpgnjgmaoejaagreat", sum := "003d3e82fc571260ac685f32ea6fd3a0905557d4565d9e5367cf86e8dce4d3b0", func := "pit/pitlaw.Trades", spec := "trades", inPlace := ["sync/atomic.AddInt64", "slices.overlaps[pit/api.Order]", "sync/atomic.LoadInt64", "(*sync.WaitGroup).Wait", "internal/race.Disable", "sync/atomic.LoadUint64", "internal/race.Enable", "internal/race.Acquire", "internal/synctest.IsAssociated[sync.WaitGroup]", "sync/atomic.CompareAndSwapUint64", "internal/synctest.Disassociate[sync.WaitGroup]", "internal/race.Write", "internal/synctest.IsInBubble", "sync.runtime_SemacquireWaitGroup", "(*sync.WaitGroup).Add", "internal/race.ReleaseMerge", "internal/synctest.Associate[sync.WaitGroup]", "sync.fatal", "sync/atomic.OrUint64", "sync/atomic.AddUint64", "internal/race.Read", "sync/atomic.StoreUint64", "sync.runtime_Semrelease", "(*sync.WaitGroup).Done"], unfollowed := true, recurses := true, leaving := true, apart := false, narrowed := true }
def TradesUptoSaid : Prop := tradesUptoRow.holds Tryz.pinned (OpenSpec.upto tradesSpec)

/-- 'pitlaw.Runs', WHERE WHAT IT READS IS OF BULK AT MOST 1048576: true; the input reads as it did. -/
def runsUptoRow : OpenClaim := { program := "ytigpgnjgmaoejaagreat", sum := "003d3e82fc571260ac685f32ea6fd3a0905557d4565d9e5367cf86e8dce4d3b0", func := "pit/pitlaw.Runs", spec := "runs", inPlace := ["sync/atomic.AddInt64", "slices.overlaps[pit/api.Order]", "sync/atomic.LoadInt64", "(*sync.WaitGroup).Wait", "internal/race.Disable", "sync/atomic.LoadUint64", "internal/race.Enable", "internal/race.Acquire", "internal/synctest.IsAssociated[sync.WaitGroup]", "sync/atomic.CompareAndSwapUint64", "internal/synctest.Disassociate[sync.WaitGroup]", "internal/race.Write", "internal/synctest.IsInBubble", "sync.runtime_SemacquireWaitGroup", "(*sync.WaitGroup).Add", "internal/race.ReleaseMerge", "internal/synctest.Associate[sync.WaitGroup]", "sync.fatal", "sync/atomic.OrUint64", "sync/atomic.AddUint64", "internal/race.Read", "sync/atomic.StoreUint64", "sync.runtime_Semrelease", "(*sync.WaitGroup).Done"], unfollowed := true, recurses := true, leaving := true, apart := false, narrowed := true }
def RunsUptoSaid : Prop := runsUptoRow.holds Tryz.pinned (OpenSpec.upto runsSpec)

/-- 'pitkeep.Together', WHERE WHAT IT READS IS OF BULK AT MOST 1048576: true; the input reads as it did. -/
def togetherUptoRow : OpenClaim := { program := "ytigpgnjgmaoejaagreat", sum := "003d3e82fc571260ac685f32ea6fd3a0905557d4565d9e5367cf86e8dce4d3b0", func := "pit/pitkeep.Together", spec := "together", inPlace := ["sync/atomic.AddInt64", "slices.overlaps[pit/api.Order]", "sync/atomic.LoadInt64", "(*sync.WaitGroup).Wait", "internal/race.Disable", "sync/atomic.LoadUint64", "internal/race.Enable", "internal/race.Acquire", "internal/synctest.IsAssociated[sync.WaitGroup]", "sync/atomic.CompareAndSwapUint64", "internal/synctest.Disassociate[sync.WaitGroup]", "internal/race.Write", "internal/synctest.IsInBubble", "sync.runtime_SemacquireWaitGroup", "(*sync.WaitGroup).Add", "internal/race.ReleaseMerge", "internal/synctest.Associate[sync.WaitGroup]", "sync.fatal", "sync/atomic.OrUint64", "sync/atomic.AddUint64", "internal/race.Read", "sync/atomic.StoreUint64", "sync.runtime_Semrelease", "(*sync.WaitGroup).Done"], unfollowed := true, recurses := true, leaving := true, apart := false, narrowed := true }
def TogetherUptoSaid : Prop := togetherUptoRow.holds Tryz.pinned (OpenSpec.upto togetherSpec)

/-- 'pitlaw.All', WHERE WHAT IT READS IS OF BULK AT MOST 1048576: true; the input reads as it did. -/
def allUptoRow : OpenClaim := { program := "ytigpgnjgmaoejaagreat", sum := "003d3e82fc571260ac685f32ea6fd3a0905557d4565d9e5367cf86e8dce4d3b0", func := "pit/pitlaw.All", spec := "all", inPlace := ["sync/atomic.AddInt64", "slices.overlaps[pit/api.Order]", "sync/atomic.LoadInt64", "(*sync.WaitGroup).Wait", "internal/race.Disable", "sync/atomic.LoadUint64", "internal/race.Enable", "internal/race.Acquire", "internal/synctest.IsAssociated[sync.WaitGroup]", "sync/atomic.CompareAndSwapUint64", "internal/synctest.Disassociate[sync.WaitGroup]", "internal/race.Write", "internal/synctest.IsInBubble", "sync.runtime_SemacquireWaitGroup", "(*sync.WaitGroup).Add", "internal/race.ReleaseMerge", "internal/synctest.Associate[sync.WaitGroup]", "sync.fatal", "sync/atomic.OrUint64", "sync/atomic.AddUint64", "internal/race.Read", "sync/atomic.StoreUint64", "sync.runtime_Semrelease", "(*sync.WaitGroup).Done"], unfollowed := true, recurses := true, leaving := true, apart := false, narrowed := true }
def AllUptoSaid : Prop := allUptoRow.holds Tryz.pinned (OpenSpec.upto allSpec)

end Rows
end Go.Proofs.YtigpgnjgmaoejaaGreat
