/- Contracts of the document's small functions: in, good, least, find, resting, best. Conditions: the pit lies in memory, and fewer than 100001 orders rest. -/
import Derived.Test.YtigpgnjgmaoejaaLay
namespace Go.Proofs.Ytigpgnjgmaoejaa
open Go.RowKit

def inB (n lo hi : Int) : Bool := decide (lo ≤ n) && decide (n ≤ hi)

def goodB (side price own : Int) : Bool := (side == 1 && decide (price ≤ own)) || (side == 2 && decide (own ≤ price))

def leastI (a b : Int) : Int := if a < b then a else b
/-- A place, or none. -/
def enc : Option Nat → Int
  | some i => i
  | none => -1

def findO (L : List Ord) (id : Int) : Option Nat := L.findIdx? fun o => o.id == id

theorem findO_some {L : List Ord} {id : Int} {k : Nat} (hk : k < L.length) (h : (L[k].id == id) = true) (hn : ∀ j, (hj : j < L.length) → j < k → L[j].id ≠ id) : findO L id = some k := by
  unfold findO
  rw [List.findIdx?_eq_some_iff_getElem]
  exact ⟨hk, h, fun j hj => by simpa using hn j (by omega) hj⟩
theorem findO_none {L : List Ord} {id : Int} (hn : ∀ j, (hj : j < L.length) → L[j].id ≠ id) : findO L id = none := by
  unfold findO
  rw [List.findIdx?_eq_none_iff]
  intro o ho
  obtain ⟨j, hj, rfl⟩ := List.getElem_of_mem ho
  simpa using hn j hj

/-- How many of a side of a book rest among the first k. -/
def restTo (L : List Ord) (b s : Int) (k : Nat) : Nat := ((L.take k).filter fun o => o.book == b && o.side == s).length
theorem restTo_succ {L : List Ord} {b s : Int} {k : Nat} (hk : k < L.length) : restTo L b s (k + 1) = restTo L b s k + if (L[k].book == b && L[k].side == s) = true then 1 else 0 := by
  unfold restTo
  rw [List.take_succ_eq_append_getElem hk, List.filter_append, List.length_append]
  simp only [List.filter_cons, List.filter_nil]
  split <;> rfl
theorem restTo_le (L : List Ord) (b s : Int) (k : Nat) : restTo L b s k ≤ k := by
  unfold restTo
  exact Nat.le_trans (List.length_filter_le _ _) (List.length_take_le _ _)

def restN (L : List Ord) (b s : Int) : Nat := (L.filter fun o => o.book == b && o.side == s).length

end Go.Proofs.Ytigpgnjgmaoejaa
