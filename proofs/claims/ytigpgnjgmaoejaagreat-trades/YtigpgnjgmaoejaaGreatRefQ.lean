/- The document's takes, whole: the orders that are met, as a plain function (mWhile), and the contract. Conditions: the pit lies in memory, its numbers are such. -/
import Derived.Test.YtigpgnjgmaoejaaGreatRefE
import Derived.Test.YtigpgnjgmaoejaaGreatRefHK
namespace Go.Proofs.YtigpgnjgmaoejaaGreat
open Go.RowKit

def tradedE (id other price n : Int) : Ev := ⟨3, id, other, price, n, 0⟩

/-- What is met, one after the other: what rests then, what was traded, what is open, the events. -/
def mWhile (x : Ord) : Nat → List Ord → Int → Int → List Ev → List Ord × Int × Int × List Ev
  | 0, L, t, o, E => (L, t, o, E)
  | f + 1, L, t, o, E =>
    if crossB L x = true ∧ 0 < o then
      match bestO L x.book (3 - x.side) with
      | none => (L, t, o, E)
      | some i => match L[i]? with
        | none => (L, t, o, E)
        | some y =>
          if y.trader = x.trader then mWhile x f (L.eraseIdx i) t o (E ++ [goneE y.id y.opn])
          else mWhile x f (if y.opn = leastI o y.opn then L.eraseIdx i else L.set i { y with opn := y.opn - leastI o y.opn }) (t + leastI o y.opn) (o - leastI o y.opn) (E ++ [tradedE x.id y.id y.price (leastI o y.opn)])
    else (L, t, o, E)

theorem mWhile_stop {x : Ord} {f : Nat} {L : List Ord} {t o : Int} {E : List Ev} (h : ¬ (crossB L x = true ∧ 0 < o)) : mWhile x f L t o E = (L, t, o, E) := by
  cases f with
  | zero => rfl
  | succ f => simp only [mWhile]; rw [if_neg h]
theorem mWhile_own {x : Ord} {f : Nat} {L : List Ord} {t o : Int} {E : List Ev} {i : Nat} (h : crossB L x = true) (ho : 0 < o) (hb : bestO L x.book (3 - x.side) = some i) (hi : i < L.length) (ht : L[i].trader = x.trader) :
    mWhile x (f + 1) L t o E = mWhile x f (L.eraseIdx i) t o (E ++ [goneE L[i].id L[i].opn]) := by
  simp only [mWhile]
  rw [if_pos ⟨h, ho⟩, hb]
  simp only [List.getElem?_eq_getElem hi]
  rw [if_pos ht]
theorem mWhile_meet {x : Ord} {f : Nat} {L : List Ord} {t o : Int} {E : List Ev} {i : Nat} (h : crossB L x = true) (ho : 0 < o) (hb : bestO L x.book (3 - x.side) = some i) (hi : i < L.length) (ht : L[i].trader ≠ x.trader) :
    mWhile x (f + 1) L t o E = mWhile x f (if L[i].opn = leastI o L[i].opn then L.eraseIdx i else L.set i { L[i] with opn := L[i].opn - leastI o L[i].opn }) (t + leastI o L[i].opn) (o - leastI o L[i].opn) (E ++ [tradedE x.id L[i].id L[i].price (leastI o L[i].opn)]) := by
  simp only [mWhile]
  rw [if_pos ⟨h, ho⟩, hb]
  simp only [List.getElem?_eq_getElem hi]
  rw [if_neg ht]
end Go.Proofs.YtigpgnjgmaoejaaGreat
