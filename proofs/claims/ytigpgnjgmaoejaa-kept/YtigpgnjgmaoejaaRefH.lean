/- Contract of the document's comes (New) in books that gather, its end: a full book, an order that comes to rest. Conditions: the pit lies in memory, fewer than 100000 orders rest, no book trades. -/
import Derived.Test.YtigpgnjgmaoejaaRefFG
namespace Go.Proofs.Ytigpgnjgmaoejaa
open Go.RowKit

theorem restN_le (L : List Ord) (b s : Int) : restN L b s ≤ L.length := List.length_filter_le _ _

theorem box8 {W : World} {b : Nat} {T : TypeId} {x0 x1 x2 x3 x4 x5 x6 x7 : Value} (h : W.heap[b]? = some (.cells #[x0, x1, x2, x3, x4, x5, x6, x7] T (0, 0))) :
    W.cell? ⟨b, 0, none⟩ = some x0 ∧ W.cell? ⟨b, 1, none⟩ = some x1 ∧ W.cell? ⟨b, 2, none⟩ = some x2 ∧ W.cell? ⟨b, 3, none⟩ = some x3 ∧ W.cell? ⟨b, 4, none⟩ = some x4 ∧ W.cell? ⟨b, 5, none⟩ = some x5 ∧ W.cell? ⟨b, 6, none⟩ = some x6 ∧ W.cell? ⟨b, 7, none⟩ = some x7 ∧ ∀ k, W.frozen? ⟨b, k, none⟩ = false :=
  ⟨cell_heap h 0, cell_heap h 1, cell_heap h 2, cell_heap h 3, cell_heap h 4, cell_heap h 5, cell_heap h 6, cell_heap h 7, frozen_heap h⟩

theorem heap_newAt {b : Nat} (w : World) (o : Obj) (h : b = w.heap.size) : (w.alloc o).heap[b]? = some o := by subst h; exact heap_alloc_new w o

end Go.Proofs.Ytigpgnjgmaoejaa
