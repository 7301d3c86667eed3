/- Contract of the document's bestOf: the place of the best order of a trader. Conditions: the pit lies in memory, fewer than 100001 orders rest. -/
import Derived.Test.YtigpgnjgmaoejaaRefE
import Derived.Test.YtigpgnjgmaoejaaLay
namespace Go.Proofs.Ytigpgnjgmaoejaa
open Go.RowKit

def natCell (n : Nat) : List Value := [.int .i64 (n : Int)]
theorem natCell_len (n : Nat) : (natCell n).length = 1 := rfl
theorem natCell_one (n : Nat) : ∀ u ∈ natCell n, u.oneCell' = true := by intro u hu; simp only [natCell, List.mem_cons, List.not_mem_nil, or_false] at hu; subst hu; rfl
/-- A slice of numbers. -/
def Ns (w : World) (base : Nat) (v : Value) (L : List Nat) : Prop := w.ownsRow base 3 1 v L.length (L.flatMap natCell)

theorem app_nat {ops : Array Oper} {rest : List Oper} {o : Oper} {a : Act} {Q : Exit → Act → World → Prop} {w : World} (hgd : o.guard = none) (s x : Operand) (ho : o.op = .call { callee := .builtin .append, args := #[s, x], argTypes := #[37, 37] })
    (base : Nat) (v : Value) (L : List Nat) (hown : Ns w base v L) (hs : a.eval s = v)
    (ad : Addr) (m c : Nat) (N : List Nat) (hx : a.eval x = .slice (some ad) m c) (hm : m = N.length) (hN : 0 < N.length) (hnews : ∀ j u, (N.flatMap natCell)[j]? = some u → w.cell? (ad.add j) = some u)
    (hb : L.length + N.length ≤ 1000000) (hbase : base ≤ w.heap.size)
    (h : ∀ g cap w', Ns w' base (.slice (some ⟨g, 0, none⟩) (L.length + m) cap) (L ++ N) → Fr (OwnS v) w w' → (v.ownBlock = some g ∨ g = w.heap.size) → g < w'.heap.size → wpList Try.prog ops Q rest (a.put o.dst (.slice (some ⟨g, 0, none⟩) (L.length + m) cap)) w') : wpList Try.prog ops Q (o :: rest) a w :=
  wpList_plain hgd fun _ hK => app_wp infoInt Try.underlying37 natCell_len rfl (by decide) natCell_one s x ho base v L hown hs ad m c N hx hm hN hnews (by omega) (by omega) hbase fun g cap w' h2 h3 h4 h5 => hK _ _ (h g cap w' h2 h3 h4 h5)

def isOf (t : Int) (o : Ord) : Bool := o.trader == t
/-- The places of a trader's orders among the first k. -/
def idxTo (L : List Ord) (t : Int) (k : Nat) : List Nat := (List.range k).filter fun j => (L[j]?.map (isOf t)).getD false

theorem idxTo_succ {L : List Ord} {t : Int} {k : Nat} (hk : k < L.length) : idxTo L t (k + 1) = if isOf t L[k] = true then idxTo L t k ++ [k] else idxTo L t k := by
  unfold idxTo
  rw [List.range_succ, List.filter_append]
  simp only [List.filter_cons, List.filter_nil, List.getElem?_eq_getElem hk, Option.map_some, Option.getD_some]
  split <;> simp
theorem subTo_succ {L : List Ord} {t : Int} {k : Nat} (hk : k < L.length) : (L.take (k + 1)).filter (isOf t) = if isOf t L[k] = true then (L.take k).filter (isOf t) ++ [L[k]] else (L.take k).filter (isOf t) := by
  rw [List.take_succ_eq_append_getElem hk, List.filter_append]
  simp only [List.filter_cons, List.filter_nil]
  split <;> simp
theorem idxTo_len {L : List Ord} {t : Int} : ∀ {k : Nat}, k ≤ L.length → (idxTo L t k).length = ((L.take k).filter (isOf t)).length
  | 0, _ => by simp [idxTo]
  | k + 1, h => by
    rw [idxTo_succ (by omega), subTo_succ (by omega)]
    have := idxTo_len (L := L) (t := t) (k := k) (by omega)
    split <;> simp [this]
theorem sub_le {L : List Ord} {t : Int} {k : Nat} : ((L.take k).filter (isOf t)).length ≤ k := Nat.le_trans (List.length_filter_le _ _) (List.length_take_le _ _)

def bestOfO (L : List Ord) (b s t : Int) : Option Nat := (bestO (L.filter (isOf t)) b s).bind fun j => (idxTo L t L.length)[j]?

theorem ns_at {w : World} {base : Nat} {a : Option Addr} {n cap : Nat} {L : List Nat} (h : Ns w base (.slice a n cap) L) (i : Nat) (hi : i < L.length) :
    ∃ g, a = some ⟨g, 0, none⟩ ∧ g < w.heap.size ∧ n = L.length ∧ w.cell? ⟨g, i, none⟩ = some (.int .i64 (L[i] : Int)) := by
  obtain ⟨g, rfl, h1, _, h3, _, hc, _⟩ := own_at natCell_len h i hi
  exact ⟨g, rfl, h1, h3, by have := hc 0 _ (by omega) rfl; simpa using this⟩

end Go.Proofs.Ytigpgnjgmaoejaa
