/- Contract of ownsEvents: a list that came out is written full with a mark of its own, three more are put behind it, and all four are kept. Conditions: as in the contract's hypotheses. -/
import Derived.Test.YtigpgnjgmaoejaaLawAC
namespace Go.Proofs.Ytigpgnjgmaoejaa
open Go.RowKit

theorem box7 {W : World} {b : Nat} {T : TypeId} {x0 x1 x2 x3 x4 x5 x6 : Value} (h : W.heap[b]? = some (.cells #[x0, x1, x2, x3, x4, x5, x6] T (0, 0))) :
    W.cell? ⟨b, 0, none⟩ = some x0 ∧ W.cell? ⟨b, 1, none⟩ = some x1 ∧ W.cell? ⟨b, 2, none⟩ = some x2 ∧ W.cell? ⟨b, 3, none⟩ = some x3 ∧ W.cell? ⟨b, 6, none⟩ = some x6 ∧ ∀ k, W.frozen? ⟨b, k, none⟩ = false :=
  ⟨cell_heap h 0, cell_heap h 1, cell_heap h 2, cell_heap h 3, cell_heap h 6, frozen_heap h⟩

/-- A frame that is written out, behind a step. -/
theorem putLaws : (∀ (a : Act) (d : Tmp) (v : Value), a.put (some d) v = { a with tmps := a.tmps.setIfInBounds d v }) ∧ (∀ (a : Act) (v : Value), a.put none v = a) ∧
    (∀ (l : List Value) (i : Nat) (v : Value), l.toArray.setIfInBounds i v = (l.set i v).toArray) ∧ (∀ (x v : Value) (l : List Value), (x :: l).set 0 v = v :: l) ∧ (∀ (x v : Value) (l : List Value) (n : Nat), (x :: l).set (n + 1) v = x :: l.set n v) :=
  ⟨fun _ _ _ => rfl, fun _ _ => rfl, fun _ _ _ => by simp, fun _ _ _ => rfl, fun _ _ _ _ => rfl⟩

/-- Where the new list lies: out of the old one, or new. -/
theorem keep_fr {v : Value} {g n c : Nat} {w w0 w' : World} (h0 : Fr No w w0) (h : (v = .slice (some ⟨g, 0, none⟩) n c ∧ Fr (OwnS v) w0 w') ∨ (g = w0.heap.size ∧ Fr No w0 w')) : Fr (OwnS v) w w' :=
  h.elim (fun h => h0.of_no.same h.2) (fun h => (h0.quiet h.2).of_no)

end Go.Proofs.Ytigpgnjgmaoejaa
