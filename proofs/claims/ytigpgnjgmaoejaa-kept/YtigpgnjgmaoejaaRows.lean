/-
  No cell of these rows narrows 'for every input' (looked for: loops, veiled, ifaces, maps, wideKeys, modest, calm, conditions, laid).
  DERIVED. THE GIVEN ROWS OF THIS SEAT. 4 by the template 'for every input the law returns true; each argument reads behind the call as it read before'; 0 by the template 'total and deterministic' (their statements: YtigpgnjgmaoejaaTotals.lean).
  GIVEN WITH THE SEED: the statements are not yours to turn. If you find one false, say at which input.
  Laid BY PROGRAM, IN A SANDBOX (cutbox-rows.mjs): the forced cells as the released guide's own fill.sh prints them over the translation 1a212b4e799b1882… (all of the seat's roots in one cut). By AI agents, Wed Nov 11 2026. No macro, syntax, notation, axiom, sorry.
-/
import Derived.Test.YtigpgnjgmaoejaaChecked
import GoSem.Claim
import GoSem.ClaimJoined
import GoSem.ClaimMapViews
import Derived.JoinedTies
import Derived.KernelRfl
namespace Go.Proofs.Ytigpgnjgmaoejaa
/- THE CELL 'sum', in the pinned program and in every row, IS THE sha256 OF THE DUMP (.gsa) THAT YtigpgnjgmaoejaaProg.lean LOADS. Nothing in Lean hashes anything: it is a label: what it is worth is what the hold of that sum in a sandbox is worth. -/
noncomputable def Try.pinned : Pinned := { name := "ytigpgnjgmaoejaa", sum := "1a212b4e799b188206753fcc9db0bce2b95a383d2eb8f4aa34f8d5a8f7509e7b", checked := Try.checked }
namespace Rows
def none {H : Type} : Left H := { results := [], args := [] }

/-- 'pitkeep.Uncrossed': WHATEVER THE INPUT: true; the input reads as it did. -/
def uncrossedSpec : ChangeSpec := { name := "uncrossed", fn := fun _ => fun
  | [d] => { results := [.lit (.bool true)], args := [d] }
  | _ => none }
def uncrossedRow : OpenClaim := { program := "ytigpgnjgmaoejaa", sum := "1a212b4e799b188206753fcc9db0bce2b95a383d2eb8f4aa34f8d5a8f7509e7b", func := "pit/pitkeep.Uncrossed", spec := "uncrossed", inPlace := ["sync/atomic.AddInt64", "slices.overlaps[pit/api.Order]", "sync/atomic.LoadInt64"], unfollowed := true, recurses := true, apart := false }
def UncrossedSaid : Prop := uncrossedRow.holds Try.pinned (OpenSpec.ofChange uncrossedSpec)

/-- ITS FALSE NEIGHBOUR: 'it returns false'. Refute it at one input. -/
def uncrossedWrong : ChangeSpec := { name := "uncrossed", fn := fun _ => fun
  | [d] => { results := [.lit (.bool false)], args := [d] }
  | _ => none }
def UncrossedWrongFalsely : Prop := uncrossedRow.holds Try.pinned (OpenSpec.ofChange uncrossedWrong)

/-- 'pitkeep.Kept': WHATEVER THE INPUT: true; the input reads as it did. -/
def keptSpec : ChangeSpec := { name := "kept", fn := fun _ => fun
  | [d1, d2] => { results := [.lit (.bool true)], args := [d1, d2] }
  | _ => none }
def keptRow : OpenClaim := { program := "ytigpgnjgmaoejaa", sum := "1a212b4e799b188206753fcc9db0bce2b95a383d2eb8f4aa34f8d5a8f7509e7b", func := "pit/pitkeep.Kept", spec := "kept", inPlace := ["sync/atomic.AddInt64", "slices.overlaps[pit/api.Order]", "sync/atomic.LoadInt64"], unfollowed := true, recurses := true, apart := false }
def KeptSaid : Prop := keptRow.holds Try.pinned (OpenSpec.ofChange keptSpec)

/-- ITS FALSE NEIGHBOUR: 'it returns false'. Refute it at one input. -/
def keptWrong : ChangeSpec := { name := "kept", fn := fun _ => fun
  | [d1, d2] => { results := [.lit (.bool false)], args := [d1, d2] }
  | _ => none }
def KeptWrongFalsely : Prop := keptRow.holds Try.pinned (OpenSpec.ofChange keptWrong)

/-- 'pitkeep.Fair': WHATEVER THE INPUT: true; the input reads as it did. -/
def fairSpec : ChangeSpec := { name := "fair", fn := fun _ => fun
  | [d1, d2] => { results := [.lit (.bool true)], args := [d1, d2] }
  | _ => none }
def fairRow : OpenClaim := { program := "ytigpgnjgmaoejaa", sum := "1a212b4e799b188206753fcc9db0bce2b95a383d2eb8f4aa34f8d5a8f7509e7b", func := "pit/pitkeep.Fair", spec := "fair", inPlace := ["sync/atomic.AddInt64", "slices.overlaps[pit/api.Order]", "sync/atomic.LoadInt64"], unfollowed := true, recurses := true, apart := false }
def FairSaid : Prop := fairRow.holds Try.pinned (OpenSpec.ofChange fairSpec)

/-- ITS FALSE NEIGHBOUR: 'it returns false'. Refute it at one input. -/
def fairWrong : ChangeSpec := { name := "fair", fn := fun _ => fun
  | [d1, d2] => { results := [.lit (.bool false)], args := [d1, d2] }
  | _ => none }
def FairWrongFalsely : Prop := fairRow.holds Try.pinned (OpenSpec.ofChange fairWrong)

/-- 'pitkeep.Opened': WHATEVER THE INPUT: true; the input reads as it did. -/
def openedSpec : ChangeSpec := { name := "opened", fn := fun _ => fun
  | [d1, d2] => { results := [.lit (.bool true)], args := [d1, d2] }
  | _ => none }
def openedRow : OpenClaim := { program := "ytigpgnjgmaoejaa", sum := "1a212b4e799b188206753fcc9db0bce2b95a383d2eb8f4aa34f8d5a8f7509e7b", func := "pit/pitkeep.Opened", spec := "opened", inPlace := ["sync/atomic.AddInt64", "slices.overlaps[pit/api.Order]", "sync/atomic.LoadInt64"], unfollowed := true, recurses := true, apart := false }
def OpenedSaid : Prop := openedRow.holds Try.pinned (OpenSpec.ofChange openedSpec)

/-- ITS FALSE NEIGHBOUR: 'it returns false'. Refute it at one input. -/
def openedWrong : ChangeSpec := { name := "opened", fn := fun _ => fun
  | [d1, d2] => { results := [.lit (.bool false)], args := [d1, d2] }
  | _ => none }
def OpenedWrongFalsely : Prop := openedRow.holds Try.pinned (OpenSpec.ofChange openedWrong)

/- THE SECOND FORM. 'bulk': how many values and letters a reading holds, each counted each time it is reached (what is shared counts as often as it is met; a slice's spare places count too). A statement '..UptoSaid' is the law's where the arguments, and the package variables that the reading takes, are together of bulk at most 1048576: NARROWER than '..Said'. Prove '..Said' where nothing that the law and all that it calls make is longer than what came in: it says more and counts as full. Else prove '..UptoSaid'. A law counts once. -/
mutual
def uptoBulk {H : Type} : DataW H → Nat
  | .lit (.string bytes) => bytes.length + 1
  | .lit _ => 1
  | .nil => 1
  | .ptr d => uptoBulk d + 1
  | .slice elems spare => uptoBulkAll elems + uptoBulkAll spare + 1
  | .agg parts => uptoBulkAll parts + 1
  | .iface _ d => uptoBulk d + 1
  | .map entries => uptoBulkEntries entries + 1
  | .held _ => 1
def uptoBulkAll {H : Type} : List (DataW H) → Nat
  | [] => 0
  | d :: r => uptoBulk d + uptoBulkAll r
def uptoBulkEntries {H : Type} : List (Lit × DataW H) → Nat
  | [] => 0
  | x :: r => uptoBulkEntry x + uptoBulkEntries r
def uptoBulkEntry {H : Type} : Lit × DataW H → Nat
  | (.string bytes, d) => bytes.length + uptoBulk d + 1
  | (_, d) => uptoBulk d + 1
 end
def uptoSmall : (H : Type) → List (DataW H) → Bool := fun _ ds => decide (uptoBulkAll ds ≤ 1048576)
def OpenSpec.upto (s : _root_.Go.ChangeSpec) : _root_.Go.OpenSpec := { _root_.Go.OpenSpec.ofChange s with cond := some uptoSmall }

/-- 'pitkeep.Uncrossed', WHERE WHAT IT READS IS OF BULK AT MOST 1048576: true; the input reads as it did. -/
def uncrossedUptoRow : OpenClaim := { program := "ytigpgnjgmaoejaa", sum := "1a212b4e799b188206753fcc9db0bce2b95a383d2eb8f4aa34f8d5a8f7509e7b", func := "pit/pitkeep.Uncrossed", spec := "uncrossed", inPlace := ["sync/atomic.AddInt64", "slices.overlaps[pit/api.Order]", "sync/atomic.LoadInt64"], unfollowed := true, recurses := true, apart := false, narrowed := true }
def UncrossedUptoSaid : Prop := uncrossedUptoRow.holds Try.pinned (OpenSpec.upto uncrossedSpec)

/-- 'pitkeep.Kept', WHERE WHAT IT READS IS OF BULK AT MOST 1048576: true; the input reads as it did. -/
def keptUptoRow : OpenClaim := { program := "ytigpgnjgmaoejaa", sum := "1a212b4e799b188206753fcc9db0bce2b95a383d2eb8f4aa34f8d5a8f7509e7b", func := "pit/pitkeep.Kept", spec := "kept", inPlace := ["sync/atomic.AddInt64", "slices.overlaps[pit/api.Order]", "sync/atomic.LoadInt64"], unfollowed := true, recurses := true, apart := false, narrowed := true }
def KeptUptoSaid : Prop := keptUptoRow.holds Try.pinned (OpenSpec.upto keptSpec)

/-- 'pitkeep.Fair', WHERE WHAT IT READS IS OF BULK AT MOST 1048576: true; the input reads as it did. -/
def fairUptoRow : OpenClaim := { program := "ytigpgnjgmaoejaa", sum := "1a212b4e799b188206753fcc9db0bce2b95a383d2eb8f4aa34f8d5a8f7509e7b", func := "pit/pitkeep.Fair", spec := "fair", inPlace := ["sync/atomic.AddInt64", "slices.overlaps[pit/api.Order]", "sync/atomic.LoadInt64"], unfollowed := true, recurses := true, apart := false, narrowed := true }
def FairUptoSaid : Prop := fairUptoRow.holds Try.pinned (OpenSpec.upto fairSpec)

/-- 'pitkeep.Opened', WHERE WHAT IT READS IS OF BULK AT MOST 1048576: true; the input reads as it did. -/
def openedUptoRow : OpenClaim := { program := "ytigpgnjgmaoejaa", sum := "1a212b4e799b188206753fcc9db0bce2b95a383d2eb8f4aa34f8d5a8f7509e7b", func := "pit/pitkeep.Opened", spec := "opened", inPlace := ["sync/atomic.AddInt64", "slices.overlaps[pit/api.Order]", "sync/atomic.LoadInt64"], unfollowed := true, recurses := true, apart := false, narrowed := true }
def OpenedUptoSaid : Prop := openedUptoRow.holds Try.pinned (OpenSpec.upto openedSpec)

end Rows
end Go.Proofs.Ytigpgnjgmaoejaa
