/- What the law asks of the program's pit (PitLaw), and the law's order and look over it. Conditions: both pits lie in memory and hold the same. -/
import Derived.Test.YtigpgnjgmaoejaaRefN
import Derived.Test.YtigpgnjgmaoejaaRefO
import Derived.Test.YtigpgnjgmaoejaaRefP
namespace Go.Proofs.Ytigpgnjgmaoejaa
open Go.RowKit

/-- A pit of books that gather. -/
structure Good (s : Ref) : Prop where
  tr : ∀ k, s.tr k = false
  td : ∀ k, s.td k = 0
  ord : ∀ o ∈ s.L, (1 ≤ o.book ∧ o.book ≤ 8) ∧ (o.side = 1 ∨ o.side = 2) ∧ (1 ≤ o.opn ∧ o.opn ≤ 1000000) ∧ (1 ≤ o.price ∧ o.price ≤ 1000000) ∧ (1 ≤ o.id ∧ o.id ≤ 1000000000) ∧ 1 ≤ o.trader ∧ o.trader ≤ 1000
  ids : (s.L.map Ord.id).Nodup
  cap : ∀ b, restN s.L b 1 + restN s.L b 2 ≤ 200

/-- What is asked of the program: how a pit lies in memory (Rep: at a block, within some blocks, what it holds), and what its calls do. -/
structure PitLaw (Rep : World → Nat → (Nat → Prop) → Ref → Prop) : Prop where
  fr : ∀ {S : Nat → Prop} {w w' : World} {bx : Nat} {F : Nat → Prop} {s : Ref}, Rep w bx F s → Fr S w w' → (∀ k, F k → ¬ S k) → Rep w' bx F s
  lt : ∀ {w : World} {bx : Nat} {F : Nat → Prop} {s : Ref}, Rep w bx F s → ∀ k, F k → k < w.heap.size
  new_ : ∀ w : World, Calls Try.prog 17 #[] w fun e w' => ∃ bx F, e = .returned (.pointer (some ⟨bx, 0, none⟩)) ∧ Rep w' bx F (refNil []) ∧ Fr No w w' ∧ ∀ k, F k → w.heap.size ≤ k
  do_ : ∀ {w : World} {bx : Nat} {F : Nat → Prop} {s : Ref} (c : Cmd), Rep w bx F s → Good s → c.what ≤ 4 → Calls Try.prog 8 #[.pointer (some ⟨bx, 0, none⟩), c.val] w fun e w' =>
    ∃ r F', e = .returned r ∧ Rep w' bx F' { s with L := (gDo s.L c).1 } ∧ Fr F w w' ∧ (∀ k, F' k → F k ∨ w.heap.size ≤ k) ∧ Es w' w.heap.size r (gDo s.L c).2 ∧ ∀ g, OwnS r g → ¬ F' g
  depthBad : ∀ {w : World} {bx : Nat} {F : Nat → Prop} {s : Ref} (b sd most : Int), Rep w bx F s → Good s → (inB b 1 8 = false ∨ sideOk sd = false) →
    Calls Try.prog 15 #[.pointer (some ⟨bx, 0, none⟩), .int .i64 b, .int .i64 sd, .int .i64 most] w fun e w' => e = .returned (.tuple #[.slice none 0 0, .int .i64 2]) ∧ Fr No w w'
  depth_ : ∀ {w : World} {bx : Nat} {F : Nat → Prop} {s : Ref} (b sd most : Int), Rep w bx F s → Good s → inB b 1 8 = true → (sd = 1 ∨ sd = 2) →
    Calls Try.prog 15 #[.pointer (some ⟨bx, 0, none⟩), .int .i64 b, .int .i64 sd, .int .i64 most] w (depthPost w (cutTo most (levelsO s.L b sd)))
  order_ : ∀ {w : World} {bx : Nat} {F : Nat → Prop} {s : Ref} (id : Int), Rep w bx F s → Good s → Calls Try.prog 25 #[.pointer (some ⟨bx, 0, none⟩), .int .i64 id] w fun e w' => e = .returned (orderR s.L id) ∧ Fr No w w'
  look_ : ∀ {w : World} {bx : Nat} {F : Nat → Prop} {s : Ref} (b : Int), Rep w bx F s → Good s → Calls Try.prog 12 #[.pointer (some ⟨bx, 0, none⟩), .int .i64 b] w fun e w' => e = .returned (lookR s b) ∧ Fr No w w'
  volume_ : ∀ {w : World} {bx : Nat} {F : Nat → Prop} {s : Ref}, Rep w bx F s → Good s → Calls Try.prog 13 #[.pointer (some ⟨bx, 0, none⟩)] w fun e w' => e = .returned (.int .i64 0) ∧ Fr No w w'

theorem orderR_form (L : List Ord) (id : Int) : ∃ (x0 x1 x2 x3 x4 x5 k : Int), orderR L id = .tuple #[.agg #[.int .i64 x0, .int .i64 x1, .int .i64 x2, .int .i64 x3, .int .i64 x4, .int .i64 x5], .int .i64 k] := by
  unfold orderR
  split
  · exact ⟨0, 0, 0, 0, 0, 0, 4, rfl⟩
  · split
    · exact ⟨0, 0, 0, 0, 0, 0, 4, rfl⟩
    · rename_i x _; exact ⟨x.id, x.trader, x.book, x.side, x.price, x.opn, 0, rfl⟩

theorem lookR_form (s : Ref) (b : Int) : ∃ (x0 x1 x2 x3 k : Int), lookR s b = .tuple #[.agg #[.int .i64 x0, .int .i64 x1, .int .i64 x2, .int .i64 x3], .int .i64 k] := by
  unfold lookR
  split
  · exact ⟨_, _, _, _, 0, rfl⟩
  · exact ⟨0, 0, 0, 0, 2, rfl⟩

theorem box4 {W : World} {b : Nat} {T : TypeId} {x0 x1 x2 x3 : Value} (h : W.heap[b]? = some (.cells #[x0, x1, x2, x3] T (0, 0))) :
    W.cell? ⟨b, 0, none⟩ = some x0 ∧ W.cell? ⟨b, 1, none⟩ = some x1 ∧ W.cell? ⟨b, 2, none⟩ = some x2 ∧ W.cell? ⟨b, 3, none⟩ = some x3 :=
  ⟨cell_heap h 0, cell_heap h 1, cell_heap h 2, cell_heap h 3⟩

end Go.Proofs.Ytigpgnjgmaoejaa
