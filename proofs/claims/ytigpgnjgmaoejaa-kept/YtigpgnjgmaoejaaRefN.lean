/- Contract of the document's Do in books that gather. Conditions: the pit lies in memory, fewer than 100000 orders rest, no book trades, the orders' books are such, the command's What is 4 at most. -/
import Derived.Test.YtigpgnjgmaoejaaRefFG
import Derived.Test.YtigpgnjgmaoejaaRefK
import Derived.Test.YtigpgnjgmaoejaaRefM
namespace Go.Proofs.Ytigpgnjgmaoejaa
open Go.RowKit

def gNew (L : List Ord) (c : Cmd) : List Ord × List Ev :=
  if newOk c = false then (L, [refusedE c.id 2])
  else match findO L c.id with
    | some _ => (L, [refusedE c.id 3])
    | none =>
      if c.kind ≠ 1 then (L, [refusedE c.id 6])
      else if 200 ≤ restN L c.book 1 + restN L c.book 2 then (L, [refusedE c.id 5])
      else (L ++ [⟨c.id, c.trader, c.book, c.side, c.price, c.count⟩], [takenE c.id c.count, restsE c.id c.price c.count])

def gAt (L : List Ord) (c : Cmd) (i : Nat) (x : Ord) : List Ord × List Ev :=
  if x.trader ≠ c.trader then (L, [refusedE c.id 4])
  else if c.what ≠ 3 then (L.eraseIdx i, [goneE x.id x.opn])
  else if c.price = x.price ∧ c.count ≤ x.opn then (L.set i { x with opn := c.count }, [restsE x.id x.price c.count])
  else (L.eraseIdx i ++ [{ x with price := c.price, opn := c.count }], [goneE x.id x.opn, takenE x.id c.count, restsE x.id c.price c.count])

def gTurn (L : List Ord) (c : Cmd) : List Ord × List Ev :=
  if turnOk c = false then (L, [refusedE c.id 2])
  else match findO L c.id with
    | none => (L, [refusedE c.id 4])
    | some i => match L[i]? with
      | none => (L, [refusedE c.id 4])
      | some x => gAt L c i x

def gDo (L : List Ord) (c : Cmd) : List Ord × List Ev :=
  if c.what = 1 then gNew L c
  else if c.what = 2 ∨ c.what = 3 then gTurn L c
  else if c.what = 4 then (if inB c.trader 1 1000 = true then cTo L c.trader 8 else (L, [refusedE 0 2]))
  else (L, [refusedE 0 1])

theorem findO_lt {L : List Ord} {id : Int} {i : Nat} (h : findO L id = some i) : i < L.length := by
  unfold findO at h
  exact (List.findIdx?_eq_some_iff_getElem.1 h).1

end Go.Proofs.Ytigpgnjgmaoejaa
