/- Contracts of the document's drop, gone, refused and crosses. Conditions: the pit lies in memory, and fewer than 100001 orders rest. -/
import Derived.Test.YtigpgnjgmaoejaaLay
import Derived.Test.YtigpgnjgmaoejaaRefB
namespace Go.Proofs.Ytigpgnjgmaoejaa
open Go.RowKit

theorem erase_step {L : List Ord} {i k : Nat} (hk : k < L.length) :
    (L.take (k + 1)).eraseIdx i = if k = i then (L.take k).eraseIdx i else (L.take k).eraseIdx i ++ [L[k]] := by
  rw [List.take_succ_eq_append_getElem hk, List.eraseIdx_append]
  have hl : (L.take k).length = k := by simp; omega
  rw [hl]
  by_cases h1 : k = i
  · subst h1
    rw [if_neg (by omega), if_pos rfl, List.eraseIdx_of_length_le (l := List.take k L) (by omega)]
    simp
  · rw [if_neg h1]
    split
    · rfl
    · rw [List.eraseIdx_of_length_le (l := List.take k L) (by omega)]
      obtain ⟨m, hm⟩ : ∃ m, i - k = m + 1 := ⟨i - k - 1, by omega⟩
      rw [hm]; simp

def goneE (id n : Int) : Ev := ⟨5, id, 0, 0, n, 0⟩
def refusedE (id e : Int) : Ev := ⟨1, id, 0, 0, 0, e⟩

theorem es_new (w : World) (x : Ev) (T : TypeId) (hT : T = 31) (base : Nat) (hb : base ≤ w.heap.size) : Es (w.alloc (.cells x.cells.toArray T)) base (.slice (some ⟨w.heap.size, 0, none⟩) 1 1) [x] := by
  subst hT
  exact ⟨by simp [Ev.len], .inr ⟨w.heap.size, 1, _, rfl, hb, heap_alloc_new w _, Nat.le_refl _, by decide, by simp [Ev.len], by simp [Ev.cells]⟩⟩

end Go.Proofs.Ytigpgnjgmaoejaa

/- Contract of the document's crosses. Conditions: the pit lies in memory, fewer than 100001 orders rest, the order's side is 1 or 2. -/
namespace Go.Proofs.Ytigpgnjgmaoejaa
open Go.RowKit

def crossB (L : List Ord) (x : Ord) : Bool :=
  match bestO L x.book (3 - x.side) with
  | none => false
  | some j => goodB x.side (priceAt L j) x.price

theorem bestO_lt {L : List Ord} {b s : Int} {j : Nat} (h : bestO L b s = some j) : j < L.length := (bestTo_lt h).2

end Go.Proofs.Ytigpgnjgmaoejaa
