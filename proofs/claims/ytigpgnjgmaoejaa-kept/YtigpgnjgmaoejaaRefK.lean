/- Contract of the document's turns (Change): to fewer at the same price, and to another order. Conditions: the pit lies in memory, fewer than 100000 orders rest, for another order: no book trades. -/
import Derived.Test.YtigpgnjgmaoejaaRefIJ
namespace Go.Proofs.Ytigpgnjgmaoejaa
open Go.RowKit

theorem flat_set {α : Type} {f : α → List Value} {s : Nat} (hs : ∀ a, (f a).length = s) (L : List α) (i k : Nat) (hi : i < L.length) (hk : k < s) (y : α) (u : Value) (hy : f y = (f L[i]).set k u) :
    (L.set i y).flatMap f = (L.flatMap f).set (i * s + k) u := by
  induction L generalizing i with
  | nil => simp at hi
  | cons x l ih =>
    cases i with
    | zero =>
      simp only [List.set_cons_zero, List.flatMap_cons, Nat.zero_mul, Nat.zero_add, List.getElem_cons_zero] at hy ⊢
      rw [List.set_append_left _ _ (by rw [hs]; exact hk), hy]
    | succ j =>
      simp only [List.set_cons_succ, List.flatMap_cons, List.getElem_cons_succ] at hy ⊢
      rw [List.set_append_right _ _ (by rw [hs, Nat.add_mul]; omega), hs, show (j + 1) * s + k - s = j * s + k from by rw [Nat.add_mul]; omega,
        ih j (by simpa using hi) hy]

/-- A store into a cell of a slice of records that is owned. -/
theorem own_set {α : Type} {f : α → List Value} {s : Nat} (hs : ∀ a, (f a).length = s) {w : World} {base : Nat} {e : TypeId} {g n cap : Nat} {L : List α}
    (h : w.ownsRow base e s (.slice (some ⟨g, 0, none⟩) n cap) L.length (L.flatMap f)) (i k : Nat) (hi : i < L.length) (hk : k < s) (y : α) (u : Value) (hy : f y = (f L[i]).set k u) :
    (w.setCell ⟨g, i * s + k, none⟩ u).ownsRow base e s (.slice (some ⟨g, 0, none⟩) n cap) (L.set i y).length ((L.set i y).flatMap f) := by
  refine ⟨by rw [flat_len hs], ?_⟩
  rcases h.2 with ⟨_, h0⟩ | ⟨g', cap', cur, hv, hb, hg, hn, hm, hcs, ht⟩
  · omega
  · simp only [Value.slice.injEq, Option.some.injEq, Addr.mk.injEq, and_true] at hv
    obtain ⟨rfl, rfl, rfl⟩ := hv
    refine .inr ⟨g, cap, _, by simp, hb, heap_set hg _ _, by simpa using hn, hm, by simpa using hcs, ?_⟩
    rw [flat_set hs L i k hi hk y u hy, ← ht]
    simp [List.take_set]

end Go.Proofs.Ytigpgnjgmaoejaa
