/- Contract of the document's Depth. Conditions: the pit lies in memory, fewer than 100001 orders rest, what is open of each is from 0 to 1000000. -/
import Derived.Test.YtigpgnjgmaoejaaRefK
import Derived.Deep.LoopGhost
import Derived.Test.YtigpgnjgmaoejaaLay
namespace Go.Proofs.Ytigpgnjgmaoejaa
open Go.RowKit

/-- An order is added to the levels: to the last one, if it has its price. -/
def addLev (l : List Lev) (x : Ord) : List Lev :=
  match l.getLast? with
  | none => [⟨x.price, x.opn, 1⟩]
  | some y => if y.price = x.price then l.dropLast ++ [⟨y.price, y.count + x.opn, y.orders + 1⟩] else l ++ [⟨x.price, x.opn, 1⟩]

def dWhile (b s : Int) : Nat → List Ord → List Lev → List Lev
  | 0, _, l => l
  | f + 1, L, l => match bestO L b s with
    | none => l
    | some i => match L[i]? with
      | none => l
      | some x => dWhile b s f (L.eraseIdx i) (addLev l x)

def levelsO (L : List Ord) (b s : Int) : List Lev := dWhile b s L.length L []
def cutTo (most : Int) (l : List Lev) : List Lev := if 0 ≤ most ∧ most < l.length then l.take most.toNat else l

theorem dWhile_none {b s : Int} {f : Nat} {L : List Ord} {l : List Lev} (h : bestO L b s = none) : dWhile b s f L l = l := by
  cases f with
  | zero => rfl
  | succ f => simp [dWhile, h]
theorem dWhile_some {b s : Int} {f : Nat} {L : List Ord} {l : List Lev} {i : Nat} (hi : i < L.length) (h : bestO L b s = some i) : dWhile b s (f + 1) L l = dWhile b s f (L.eraseIdx i) (addLev l L[i]) := by
  simp [dWhile, h, List.getElem?_eq_getElem hi]

/-- The levels' numbers are within bounds. -/
def LevOk (n : Nat) (l : List Lev) : Prop := l.length ≤ n ∧ ∀ y ∈ l, 0 ≤ y.count ∧ y.count ≤ 1000000 * n ∧ 0 ≤ y.orders ∧ y.orders ≤ n
theorem LevOk.add {n : Nat} {l : List Lev} {x : Ord} (h : LevOk n l) (hx : 0 ≤ x.opn ∧ x.opn ≤ 1000000) : LevOk (n + 1) (addLev l x) := by
  obtain ⟨hl, ha⟩ := h
  have up : ∀ y ∈ l, 0 ≤ y.count ∧ y.count ≤ 1000000 * ((n + 1 : Nat) : Int) ∧ 0 ≤ y.orders ∧ y.orders ≤ ((n + 1 : Nat) : Int) := fun y hy => by have := ha y hy; omega
  unfold addLev
  split
  · refine ⟨by simp, fun y hy => ?_⟩
    simp only [List.mem_cons, List.not_mem_nil, or_false] at hy
    subst hy
    simp only; omega
  · rename_i y hy
    have hm := List.mem_of_getLast? hy
    have hy2 := ha y hm
    split
    · refine ⟨by simp; have := List.length_pos_of_mem hm; omega, fun z hz => ?_⟩
      rcases List.mem_append.1 hz with hz | hz
      · exact up z ((List.dropLast_sublist l).subset hz)
      · simp only [List.mem_cons, List.not_mem_nil, or_false] at hz; subst hz; simp only; omega
    · refine ⟨by simp; omega, fun z hz => ?_⟩
      rcases List.mem_append.1 hz with hz | hz
      · exact up z hz
      · simp only [List.mem_cons, List.not_mem_nil, or_false] at hz; subst hz; simp only; omega

/-- The first ones of a list of records. -/
theorem own_take {α : Type} {f : α → List Value} {s : Nat} (hs : ∀ a, (f a).length = s) {w : World} {base : Nat} {e : TypeId} {g n cap : Nat} {L : List α}
    (h : w.ownsRow base e s (.slice (some ⟨g, 0, none⟩) n cap) L.length (L.flatMap f)) (m : Nat) (hm : m ≤ L.length) :
    w.ownsRow base e s (.slice (some ⟨g, 0, none⟩) m cap) (L.take m).length ((L.take m).flatMap f) := by
  have hl : (L.take m).length = m := by simp; omega
  refine ⟨flat_len hs _, ?_⟩
  rcases h.2 with ⟨h0, _⟩ | ⟨g', cap', cur, hv, hb, hg, hn, hmx, hcs, ht⟩
  · cases h0
  · simp only [Value.slice.injEq, Option.some.injEq, Addr.mk.injEq, and_true] at hv
    obtain ⟨rfl, rfl, rfl⟩ := hv
    refine .inr ⟨g, cap, cur, by rw [hl], hb, hg, by omega, hmx, hcs, ?_⟩
    have h1 : L.flatMap f = (L.take m).flatMap f ++ (L.drop m).flatMap f := by rw [← List.flatMap_append, List.take_append_drop]
    have h2 : ((L.take m).flatMap f).length = (L.take m).length * s := flat_len hs _
    have h3 : cur.toList.take ((L.take m).length * s) = (cur.toList.take (L.length * s)).take ((L.take m).length * s) := by
      rw [List.take_take, Nat.min_eq_left (Nat.mul_le_mul_right _ (by omega))]
    rw [h3, ht, h1, ← h2]
    exact List.take_left

def depthPost (w : World) (l : List Lev) (e : Ending) (w' : World) : Prop := ∃ r, e = .returned (.tuple #[r, .int .i64 0]) ∧ Ls w' w.heap.size r l ∧ Fr No w w'

end Go.Proofs.Ytigpgnjgmaoejaa
