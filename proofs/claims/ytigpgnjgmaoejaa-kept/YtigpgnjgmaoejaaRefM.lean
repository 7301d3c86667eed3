/- Contract of the document's cancels (CancelAll). Conditions: the pit lies in memory, fewer than 100001 orders rest. -/
import Derived.Test.YtigpgnjgmaoejaaRefL
import Derived.Test.YtigpgnjgmaoejaaRefFG
import Derived.Deep.LoopGhost
import Derived.Deep.RegionHeld3
namespace Go.Proofs.Ytigpgnjgmaoejaa
open Go.RowKit

/-- The best one of a trader, again and again. -/
def cWhile (b s t : Int) : Nat → List Ord → List Ev → List Ord × List Ev
  | 0, L, E => (L, E)
  | f + 1, L, E => match bestOfO L b s t with
    | none => (L, E)
    | some i => cWhile b s t f (L.eraseIdx i) (E ++ [goneE ((L[i]?.map Ord.id).getD 0) ((L[i]?.map Ord.opn).getD 0)])

def cOne (b s t : Int) (x : List Ord × List Ev) : List Ord × List Ev := cWhile b s t x.1.length x.1 x.2
def cBook (b t : Int) (x : List Ord × List Ev) : List Ord × List Ev := cOne b 2 t (cOne b 1 t x)
def cTo (L : List Ord) (t : Int) : Nat → List Ord × List Ev
  | 0 => (L, [])
  | k + 1 => cBook ((k + 1 : Nat) : Int) t (cTo L t k)

theorem bestOfO_lt {L : List Ord} {b s t : Int} {i : Nat} (h : bestOfO L b s t = some i) : i < L.length := by
  unfold bestOfO at h
  cases hb : bestO (L.filter (isOf t)) b s with
  | none => rw [hb] at h; simp at h
  | some j =>
    rw [hb] at h
    simp only [Option.bind_some] at h
    have hm := List.mem_of_getElem? h
    have := (List.mem_filter.1 hm).1
    simpa using this

theorem cWhile_none {b s t : Int} {f : Nat} {L : List Ord} {E : List Ev} (h : bestOfO L b s t = none) : cWhile b s t f L E = (L, E) := by
  cases f with
  | zero => rfl
  | succ f => simp [cWhile, h]
theorem cWhile_some {b s t : Int} {f : Nat} {L : List Ord} {E : List Ev} {i : Nat} (hi : i < L.length) (h : bestOfO L b s t = some i) : cWhile b s t (f + 1) L E = cWhile b s t f (L.eraseIdx i) (E ++ [goneE L[i].id L[i].opn]) := by
  simp [cWhile, h, List.getElem?_eq_getElem hi]
theorem cWhile_len {b s t : Int} : ∀ {f : Nat} {L : List Ord} {E : List Ev}, (cWhile b s t f L E).1.length + (cWhile b s t f L E).2.length = L.length + E.length
  | 0, L, E => rfl
  | f + 1, L, E => by
    unfold cWhile
    split
    · rfl
    · rename_i i h
      have hi := bestOfO_lt h
      rw [cWhile_len]
      rw [List.length_eraseIdx, if_pos hi, List.length_append]
      simp; omega
theorem cBook_len {b t : Int} {x : List Ord × List Ev} : (cBook b t x).1.length + (cBook b t x).2.length = x.1.length + x.2.length := by
  unfold cBook cOne
  rw [cWhile_len, cWhile_len]
theorem cTo_len {L : List Ord} {t : Int} : ∀ {k : Nat}, (cTo L t k).1.length + (cTo L t k).2.length = L.length
  | 0 => by simp [cTo]
  | k + 1 => by rw [cTo, cBook_len, cTo_len]

/-- Where the two sides' loop stands. -/
def cSide (b t : Int) (x : List Ord × List Ev) (j : Nat) : List Ord × List Ev := if j = 0 then x else if j = 1 then cOne b 1 t x else cBook b t x
theorem cSide_succ {b t : Int} {x : List Ord × List Ev} {j : Nat} (h : j < 2) : cSide b t x (j + 1) = cOne b ((j : Int) + 1) t (cSide b t x j) := by
  match j, h with
  | 0, _ => rfl
  | 1, _ => rfl

end Go.Proofs.Ytigpgnjgmaoejaa
