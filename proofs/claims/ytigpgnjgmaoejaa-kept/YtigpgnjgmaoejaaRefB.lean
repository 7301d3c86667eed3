/- Contract of the document's best: the place of the best order of a side of a book. Conditions: the pit lies in memory, and fewer than 100001 orders rest. -/
import Derived.Test.YtigpgnjgmaoejaaRefA
namespace Go.Proofs.Ytigpgnjgmaoejaa
open Go.RowKit

def priceAt (L : List Ord) (j : Nat) : Int := (L[j]?.map Ord.price).getD 0
theorem priceAt_eq {L : List Ord} {j : Nat} (h : j < L.length) : priceAt L j = L[j].price := by simp [priceAt, List.getElem?_eq_getElem h]

def beatsB (s p q : Int) : Bool := (s == 1 && decide (q < p)) || (s == 2 && decide (p < q))

def bestStep (L : List Ord) (b s : Int) (a : Option Nat) (k : Nat) (o : Ord) : Option Nat :=
  if (o.book == b && o.side == s) = true then
    match a with
    | none => some k
    | some j => if beatsB s o.price (priceAt L j) = true then some k else some j
  else a

def bestTo (L : List Ord) (b s : Int) : Nat → Option Nat
  | 0 => none
  | k + 1 => match L[k]? with
    | none => bestTo L b s k
    | some o => bestStep L b s (bestTo L b s k) k o

def bestO (L : List Ord) (b s : Int) : Option Nat := bestTo L b s L.length

theorem bestTo_succ {L : List Ord} {b s : Int} {k : Nat} (h : k < L.length) : bestTo L b s (k + 1) = bestStep L b s (bestTo L b s k) k L[k] := by
  simp [bestTo, List.getElem?_eq_getElem h]

theorem bestTo_lt {L : List Ord} {b s : Int} : ∀ {k j : Nat}, bestTo L b s k = some j → j < k ∧ j < L.length
  | 0, j, h => by simp [bestTo] at h
  | k + 1, j, h => by
    simp only [bestTo] at h
    split at h
    · have := bestTo_lt h; omega
    · rename_i o ho
      have hk := (List.getElem?_eq_some_iff.1 ho).1
      unfold bestStep at h
      split at h
      · split at h
        · cases h; omega
        · rename_i j' hj'
          have := bestTo_lt hj'
          split at h <;> (cases h; omega)
      · have := bestTo_lt h; omega

theorem bs_no {L : List Ord} {b s : Int} {a : Option Nat} {k : Nat} {o : Ord} (h : (o.book != b) = true ∨ (o.side != s) = true) : bestStep L b s a k o = a := by
  rw [bestStep.eq_def, if_neg (by rcases h with h | h <;> simp at h <;> simp [h])]
theorem bs_none {L : List Ord} {b s : Int} {k : Nat} {o : Ord} (h : (o.book != b) = false) (h' : (o.side != s) = false) : bestStep L b s none k o = some k := by
  rw [bestStep.eq_def, if_pos (by simp at h h'; simp [h, h'])]
theorem bs_yes {L : List Ord} {b s : Int} {j k : Nat} {o : Ord} (h : (o.book != b) = false) (h' : (o.side != s) = false) (hb : beatsB s o.price (priceAt L j) = true) : bestStep L b s (some j) k o = some k := by
  rw [bestStep.eq_def, if_pos (by simp at h h'; simp [h, h'])]; simp [hb]
theorem bs_keep {L : List Ord} {b s : Int} {j k : Nat} {o : Ord} (h : (o.book != b) = false) (h' : (o.side != s) = false) (hb : beatsB s o.price (priceAt L j) = false) : bestStep L b s (some j) k o = some j := by
  rw [bestStep.eq_def, if_pos (by simp at h h'; simp [h, h'])]; simp [hb]

end Go.Proofs.Ytigpgnjgmaoejaa
