/- Contract of the document's takes in a book that gathers. Conditions: the pit lies in memory, fewer than 100000 orders rest, the order's numbers are such, the book does not trade, the kind is Rest. -/
import Derived.Test.YtigpgnjgmaoejaaRefCD
import Derived.Deep.RegionHeld3
namespace Go.Proofs.Ytigpgnjgmaoejaa
open Go.RowKit

theorem own_eq {g n c g' : Nat} (h : (Value.slice (some ⟨g, 0, none⟩) n c).ownBlock = some g') : g' = g := by
  simp only [Value.ownBlock, Option.some.injEq] at h; exact h.symm
theorem es_newAt {w : World} (x : Ev) {b base : Nat} (hb : b = w.heap.size) (hs : base ≤ w.heap.size) : Es (w.alloc (.cells x.cells.toArray 31)) base (.slice (some ⟨b, 0, none⟩) 1 1) [x] := by
  subst hb; exact es_new w x _ rfl base hs

/-- What a command on the document's pit may write. -/
def RefS (bp : Nat) (v : Value) : Nat → Prop := fun k => k = bp ∨ v.ownBlock = some k

def takenE (id n : Int) : Ev := ⟨2, id, 0, 0, n, 0⟩
def restsE (id p n : Int) : Ev := ⟨4, id, 0, p, n, 0⟩

theorem box6 {W : World} {b : Nat} {T : TypeId} {x0 x1 x2 x3 x4 x5 : Value} (h : W.heap[b]? = some (.cells #[x0, x1, x2, x3, x4, x5] T (0, 0))) :
    W.cell? ⟨b, 0, none⟩ = some x0 ∧ W.cell? ⟨b, 1, none⟩ = some x1 ∧ W.cell? ⟨b, 2, none⟩ = some x2 ∧ W.cell? ⟨b, 3, none⟩ = some x3 ∧ W.cell? ⟨b, 4, none⟩ = some x4 ∧ W.cell? ⟨b, 5, none⟩ = some x5 ∧ ∀ k, W.frozen? ⟨b, k, none⟩ = false :=
  ⟨cell_heap h 0, cell_heap h 1, cell_heap h 2, cell_heap h 3, cell_heap h 4, cell_heap h 5, frozen_heap h⟩

end Go.Proofs.Ytigpgnjgmaoejaa
