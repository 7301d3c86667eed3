/- Contracts of a side's put and remove. Conditions: the side's list lies in memory, and at most 100000 orders rest there. -/
import Derived.Test.YtigpgnjgmaoejaaGreatProgB
import Derived.Test.YtigpgnjgmaoejaaGreatProgIL
import Derived.Deep.RegionHeld3
namespace Go.Proofs.YtigpgnjgmaoejaaGreat
open Go.RowKit

/-- A side of a book: two cells of the book's block. -/
structure SideIn (w : World) (b o : Nat) (c : Array Value) (sd : Int) (v : Value) (M : List Ord) : Prop where
  blk : w.heap[b]? = some (.cells c 132 (0, 0))
  cel : c[o]? = some v
  bts : c[o + 1]? = some (beatsV sd b o)
  own : Os w 0 v M
  apart : ¬ OwnS v b

theorem SideIn.at_ {w : World} {b o : Nat} {c : Array Value} {sd : Int} {v : Value} {M : List Ord} (h : SideIn w b o c sd v M) : SideAt w b o v M := ⟨(cell_heap h.blk o).trans h.cel, h.own⟩
theorem SideIn.no {w w' : World} {b o : Nat} {c : Array Value} {sd : Int} {v : Value} {M : List Ord} (h : SideIn w b o c sd v M) (hf : Fr No w w') : SideIn w' b o c sd v M :=
  ⟨hf.heap h.blk id, h.cel, h.bts, own_fr h.own hf (fun _ _ => id), h.apart⟩
theorem SideIn.lt {w : World} {b o : Nat} {c : Array Value} {sd : Int} {v : Value} {M : List Ord} (h : SideIn w b o c sd v M) : b < w.heap.size := lt_of_heap h.blk

/-- The side's list is another now. -/
structure SideTo (w w' : World) (b o : Nat) (c : Array Value) (v v' : Value) (M' : List Ord) : Prop where
  blk : w'.heap[b]? = some (.cells (c.setIfInBounds o v') 132 (0, 0))
  own : Os w' 0 v' M'
  fr : Fr (fun k => k = b ∨ OwnS v k) w w'
  new : ∀ g, OwnS v' g → OwnS v g ∨ w.heap.size ≤ g

set_option maxHeartbeats 1000000 in
theorem remove_any (b o : Nat) (c : Array Value) (sd : Int) (v : Value) (M : List Ord) (k : Nat) (w : World) (h : SideIn w b o c sd v M) (hk : k < M.length) (hn : M.length ≤ 100000) :
    Calls Tryz.prog 137 #[.pointer (some ⟨b, o, none⟩), .int .i64 (k : Int)] w fun e w' => e = .returned (.tuple #[]) ∧ ∃ v', SideTo w w' b o c v v' (M.eraseIdx k) := by
  have hL := h.at_.cel
  have HS := hide h
  have hb := h.lt
  clear h
  go_enter Tryz.func137, Tryz.ntmps137
  go_wp2_with fail
  refine (delete_any 0 v M k w (unhide HS).own hk hn).mono ?_
  rintro e w1 ⟨v1, rfl, ho1, hf1, he1⟩
  have hb1 := hf1.heap (unhide HS).blk (unhide HS).apart
  have hc1 : w1.cell? ⟨b, o, none⟩ = some v := (cell_heap hb1 o).trans (unhide HS).cel
  have hz1 : w1.frozen? ⟨b, o, none⟩ = false := frozen_heap hb1 o
  have HF := hide (And.intro hf1 (And.intro ho1 (And.intro he1 hb1)))
  obtain ⟨a1, c1, hv1, _⟩ := own_form ho1
  clear hf1 ho1 he1 hb1
  subst hv1
  go_wp2
  go_end0
  obtain ⟨hf1, ho1, he1, hb1⟩ := unhide HF
  have hvb : ∀ g, OwnS (.slice a1 (M.eraseIdx k).length c1) g → g ≠ b := fun g hg e => (unhide HS).apart (by rw [← e]; show v.ownBlock = some g; rw [← he1]; exact hg)
  exact ⟨rfl, _, heap_set hb1 o _, own_fr ho1 ((Fr.refl (Is b) _).setAt b (.inr rfl) o _) (fun g hg => hvb g hg), (hf1.mono fun _ _ h => .inr h).setAt b (.inr (.inl rfl)) o _, fun g hg => .inl (by show v.ownBlock = some g; rw [← he1]; exact hg)⟩
end Go.Proofs.YtigpgnjgmaoejaaGreat
