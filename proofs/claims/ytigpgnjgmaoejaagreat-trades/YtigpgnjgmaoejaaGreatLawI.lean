/- What the law asks of the program's pit (PitLaw), and the law's order and look over it. Conditions: both pits lie in memory and hold the same. -/
import Derived.Test.YtigpgnjgmaoejaaGreatTdAC
import Derived.Test.YtigpgnjgmaoejaaGreatRefOP
namespace Go.Proofs.YtigpgnjgmaoejaaGreat
open Go.RowKit

/-- What is asked of the program: how a pit lies in memory (Rep: at a block, within some blocks, what it holds), and what its calls do. -/
structure PitLaw (Rep : World → Nat → (Nat → Prop) → Ref → Prop) : Prop where
  fr : ∀ {S : Nat → Prop} {w w' : World} {bx : Nat} {F : Nat → Prop} {s : Ref}, Rep w bx F s → Fr S w w' → (∀ k, F k → ¬ S k) → Rep w' bx F s
  lt : ∀ {w : World} {bx : Nat} {F : Nat → Prop} {s : Ref}, Rep w bx F s → ∀ k, F k → k < w.heap.size
  new_ : ∀ w : World, Calls Tryz.prog 16 #[] w fun e w' => ∃ bx F, e = .returned (.pointer (some ⟨bx, 0, none⟩)) ∧ Rep w' bx F (refNil []) ∧ Fr No w w' ∧ ∀ k, F k → w.heap.size ≤ k
  do_ : ∀ {w : World} {bx : Nat} {F : Nat → Prop} {s : Ref} (c : Cmd), Rep w bx F s → Good s → Calls Tryz.prog 13 #[.pointer (some ⟨bx, 0, none⟩), c.val] w fun e w' =>
    ∃ r F', e = .returned r ∧ Rep w' bx F' (tDo s c).1 ∧ Fr F w w' ∧ (∀ k, F' k → F k ∨ w.heap.size ≤ k) ∧ Es w' w.heap.size r (tDo s c).2 ∧ ∀ g, OwnS r g → ¬ F' g
  depthBad : ∀ {w : World} {bx : Nat} {F : Nat → Prop} {s : Ref} (b sd most : Int), Rep w bx F s → Good s → (inB b 1 8 = false ∨ sideOk sd = false) →
    Calls Tryz.prog 63 #[.pointer (some ⟨bx, 0, none⟩), .int .i64 b, .int .i64 sd, .int .i64 most] w fun e w' => e = .returned (.tuple #[.slice none 0 0, .int .i64 2]) ∧ Fr No w w'
  depth_ : ∀ {w : World} {bx : Nat} {F : Nat → Prop} {s : Ref} (b sd most : Int), Rep w bx F s → Good s → inB b 1 8 = true → (sd = 1 ∨ sd = 2) →
    Calls Tryz.prog 63 #[.pointer (some ⟨bx, 0, none⟩), .int .i64 b, .int .i64 sd, .int .i64 most] w (depthPost w (cutTo most (levelsO s.L b sd)))
  order_ : ∀ {w : World} {bx : Nat} {F : Nat → Prop} {s : Ref} (id : Int), Rep w bx F s → Good s → Calls Tryz.prog 68 #[.pointer (some ⟨bx, 0, none⟩), .int .i64 id] w fun e w' => e = .returned (orderR s.L id) ∧ Fr No w w'
  look_ : ∀ {w : World} {bx : Nat} {F : Nat → Prop} {s : Ref} (b : Int), Rep w bx F s → Good s → Calls Tryz.prog 14 #[.pointer (some ⟨bx, 0, none⟩), .int .i64 b] w fun e w' => e = .returned (lookR s b) ∧ Fr No w w'
  volume_ : ∀ {w : World} {bx : Nat} {F : Nat → Prop} {s : Ref}, Rep w bx F s → Good s → Calls Tryz.prog 15 #[.pointer (some ⟨bx, 0, none⟩)] w fun e w' => e = .returned (.int .i64 (wrp (volTo s.td 8))) ∧ Fr No w w'

/-- A pair of pits that hold the same. -/
structure PairAt (Rep : World → Nat → (Nat → Prop) → Ref → Prop) (w : World) (bq bx bp : Nat) (F : Nat → Prop) (v : Value) (s : Ref) : Prop where
  blk : w.heap[bq]? = some (.cells #[.pointer (some ⟨bx, 0, none⟩), .pointer (some ⟨bp, 0, none⟩)] 59 (0, 0))
  rep : Rep w bx F s
  ref : RefAt w bp v s
  good : Good s
  len : s.L.length ≤ 10000

theorem PairAt.cells {Rep : World → Nat → (Nat → Prop) → Ref → Prop} {w : World} {bq bx bp : Nat} {F : Nat → Prop} {v : Value} {s : Ref} (h : PairAt Rep w bq bx bp F v s) :
    w.cell? ⟨bq, 0, none⟩ = some (.pointer (some ⟨bx, 0, none⟩)) ∧ w.cell? ⟨bq, 1, none⟩ = some (.pointer (some ⟨bp, 0, none⟩)) ∧ bq < w.heap.size :=
  ⟨cell_heap h.blk 0, cell_heap h.blk 1, lt_of_heap h.blk⟩

set_option maxHeartbeats 400000 in
theorem num_any (n : Int) (w : World) : Calls Tryz.prog 65 #[.int .i64 n] w fun e w' => e = .returned (.int .i64 n) ∧ w' = w := by
  go_enter Tryz.func65, Tryz.ntmps65
  go_wp2
  go_ret
  exact ⟨rfl, rfl⟩

theorem orderR_form (L : List Ord) (id : Int) : ∃ (x0 x1 x2 x3 x4 x5 k : Int), orderR L id = .tuple #[.agg #[.int .i64 x0, .int .i64 x1, .int .i64 x2, .int .i64 x3, .int .i64 x4, .int .i64 x5], .int .i64 k] := by
  unfold orderR
  split
  · exact ⟨0, 0, 0, 0, 0, 0, 4, rfl⟩
  · split
    · exact ⟨0, 0, 0, 0, 0, 0, 4, rfl⟩
    · rename_i x _; exact ⟨x.id, x.trader, x.book, x.side, x.price, x.opn, 0, rfl⟩

set_option maxHeartbeats 2000000 in
theorem pair_order {Rep : World → Nat → (Nat → Prop) → Ref → Prop} (K : PitLaw Rep) (bq bx bp : Nat) (F : Nat → Prop) (v : Value) (s : Ref) (oid : Int) (w : World) (h : PairAt Rep w bq bx bp F v s) :
    Calls Tryz.prog 37 #[.pointer (some ⟨bq, 0, none⟩), .int .i64 oid] w fun e w' => e = .returned (.bool true) ∧ Fr No w w' := by
  obtain ⟨hc0, hc1, hbq⟩ := h.cells
  have HP := hide h
  have HK := hide K
  obtain ⟨x0, x1, x2, x3, x4, x5, k, hx⟩ := orderR_form s.L oid
  have HX := hide hx
  clear h K hx
  go_enter Tryz.func37, Tryz.ntmps37
  go_wp2_with fail
  refine ((unhide HK).order_ oid (unhide HP).rep (unhide HP).good).mono ?_
  rintro e w1 ⟨rfl, hf1⟩
  rw [unhide HX]
  have hd1 := (hf1.below.cell (p := ⟨bq, 1, none⟩) hbq).trans hc1
  have hbq1 : bq < w1.heap.size := Nat.lt_of_lt_of_le hbq hf1.size
  have HF1 := hide hf1
  clear hf1 hc0 hc1
  go_wp2_with fail
  refine (order_any bp v s oid _ (((unhide HP).ref.no (unhide HF1)).no ((Fr.refl _ _).alloc _)) (by have := (unhide HP).len; omega)).mono ?_
  rintro e w2 ⟨rfl, hf2⟩
  rw [unhide HX]
  obtain ⟨hb0, hb1, hb2, hb3, hb4, hb5, _⟩ := box6 (hf2.heap (heap_alloc_new w1 _) id)
  have hs2 : w1.heap.size < w2.heap.size := by have := hf2.size; simp at this; omega
  have HF2 : Hid (Fr No w w2) := ((unhide HF1).alloc _).quiet hf2
  clear hf2
  go_wp2_with (go_at_call 65; refine (num_any _ _).mono ?_; rintro e w3 ⟨rfl, rfl⟩)
  go_ret
  exact ⟨retB (by simp), (unhide HF2).alloc _⟩

theorem lookR_form (s : Ref) (b : Int) : ∃ (x0 x1 x2 x3 k : Int), lookR s b = .tuple #[.agg #[.int .i64 x0, .int .i64 x1, .int .i64 x2, .int .i64 x3], .int .i64 k] := by
  unfold lookR
  split
  · exact ⟨_, _, _, _, 0, rfl⟩
  · exact ⟨0, 0, 0, 0, 2, rfl⟩

theorem box4 {W : World} {b : Nat} {T : TypeId} {x0 x1 x2 x3 : Value} (h : W.heap[b]? = some (.cells #[x0, x1, x2, x3] T (0, 0))) :
    W.cell? ⟨b, 0, none⟩ = some x0 ∧ W.cell? ⟨b, 1, none⟩ = some x1 ∧ W.cell? ⟨b, 2, none⟩ = some x2 ∧ W.cell? ⟨b, 3, none⟩ = some x3 :=
  ⟨cell_heap h 0, cell_heap h 1, cell_heap h 2, cell_heap h 3⟩

set_option maxHeartbeats 2000000 in
theorem pair_look {Rep : World → Nat → (Nat → Prop) → Ref → Prop} (K : PitLaw Rep) (bq bx bp : Nat) (F : Nat → Prop) (v : Value) (s : Ref) (b : Int) (w : World) (h : PairAt Rep w bq bx bp F v s) :
    Calls Tryz.prog 36 #[.pointer (some ⟨bq, 0, none⟩), .int .i64 b] w fun e w' => e = .returned (.bool true) ∧ Fr No w w' := by
  obtain ⟨hc0, hc1, hbq⟩ := h.cells
  have HP := hide h
  have HK := hide K
  obtain ⟨x0, x1, x2, x3, k, hx⟩ := lookR_form s b
  have HX := hide hx
  clear h K hx
  go_enter Tryz.func36, Tryz.ntmps36
  go_wp2_with fail
  refine ((unhide HK).look_ b (unhide HP).rep (unhide HP).good).mono ?_
  rintro e w1 ⟨rfl, hf1⟩
  rw [unhide HX]
  have hd1 := (hf1.below.cell (p := ⟨bq, 1, none⟩) hbq).trans hc1
  have hbq1 : bq < w1.heap.size := Nat.lt_of_lt_of_le hbq hf1.size
  have HF1 := hide hf1
  clear hf1 hc0 hc1
  go_wp2_with fail
  refine (look_any bp v s b _ (((unhide HP).ref.no (unhide HF1)).no ((Fr.refl _ _).alloc _)) (by have := (unhide HP).len; omega)).mono ?_
  rintro e w2 ⟨rfl, hf2⟩
  rw [unhide HX]
  obtain ⟨hb0, hb1, hb2, hb3⟩ := box4 (hf2.heap (heap_alloc_new w1 _) id)
  have hs2 : w1.heap.size < w2.heap.size := by have := hf2.size; simp at this; omega
  have HF2 : Hid (Fr No w w2) := ((unhide HF1).alloc _).quiet hf2
  clear hf2
  go_wp2_with (go_at_call 65; refine (num_any _ _).mono ?_; rintro e w3 ⟨rfl, rfl⟩)
  go_ret
  exact ⟨retB (by simp), (unhide HF2).alloc _⟩
end Go.Proofs.YtigpgnjgmaoejaaGreat
