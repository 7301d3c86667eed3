/- Contracts of the document's Volume, Order and Look. Conditions: the pit lies in memory, fewer than 100001 orders rest, what was traded is within bounds. -/
import Derived.Test.YtigpgnjgmaoejaaRefE
namespace Go.Proofs.Ytigpgnjgmaoejaa
open Go.RowKit

theorem inB_true' {n lo hi : Int} (h : inB n lo hi = true) : lo ≤ n ∧ n ≤ hi := by simpa [inB] using h

def volTo (td : Nat → Int) : Nat → Int
  | 0 => 0
  | k + 1 => volTo td k + td (k + 1)

theorem volTo_le {td : Nat → Int} (h : ∀ k, 0 ≤ td k ∧ td k ≤ 1000000000000000) : ∀ k : Nat, 0 ≤ volTo td k ∧ volTo td k ≤ 1000000000000000 * k
  | 0 => by simp [volTo]
  | k + 1 => by have := volTo_le h k; have := h (k + 1); simp only [volTo]; omega

def orderR (L : List Ord) (id : Int) : Value :=
  match findO L id with
  | none => .tuple #[zOrd, .int .i64 4]
  | some i => match L[i]? with
    | none => .tuple #[zOrd, .int .i64 4]
    | some x => .tuple #[x.val, .int .i64 0]

theorem findO_lt' {L : List Ord} {id : Int} {i : Nat} (h : findO L id = some i) : i < L.length := by
  unfold findO at h
  exact (List.findIdx?_eq_some_iff_getElem.1 h).1

def stateV (p b s t : Int) : Value := .agg #[.int .i64 p, .int .i64 b, .int .i64 s, .int .i64 t]
def lookR (s : Ref) (b : Int) : Value :=
  if inB b 1 8 = true then .tuple #[stateV (if s.tr b.toNat = true then 2 else 1) (restN s.L b 1) (restN s.L b 2) (s.td b.toNat), .int .i64 0]
  else .tuple #[stateV 0 0 0 0, .int .i64 2]

end Go.Proofs.Ytigpgnjgmaoejaa
