/- Contract of a book's State. Conditions: the book lies in memory, at most 1000 orders on a side. -/
import Derived.Test.YtdibeaipllmifaaGreatProgEF
namespace Go.Proofs.YtdibeaipllmifaaGreat
open Go.RowKit

set_option maxHeartbeats 4000000 in
set_option maxRecDepth 20000 in
theorem bState_any (b bx : Nat) (tr : Bool) (td : Int) (v : Nat → Value) (M : Nat → List Ord) (w : World) (h : PB w b bx tr td v M) :
    Calls Tryz.prog 82 #[.pointer (some ⟨b, 0, none⟩)] w fun e w' => e = .returned (stateV (if tr = true then 2 else 1) (M 0).length (M 1).length td) ∧ Fr No w w' := by
  obtain ⟨a0, cap0, hv0⟩ := h.side0.at_.form
  obtain ⟨a1, cap1, hv1⟩ := h.side1.at_.form
  obtain ⟨hp, ht, hc0, hc1⟩ := h.cells
  rw [hv0] at hc0
  rw [hv1] at hc1
  have hb := h.lt
  clear h hv0 hv1
  generalize (M 0).length = n0 at *
  generalize (M 1).length = n1 at *
  generalize (if tr = true then (2 : Int) else 1) = ph at *
  go_enter Tryz.func82, Tryz.ntmps82
  go_wp2
  go_region_held3 (fun w' : World => w'.cell? ⟨b, 0, none⟩ = some (.int .i64 ph) ∧ w'.cell? ⟨b, 1, none⟩ = some (.int .i64 td) ∧ w'.cell? ⟨b, 3, none⟩ = some (.slice a0 n0 cap0) ∧ w'.cell? ⟨b, 5, none⟩ = some (.slice a1 n1 cap1)) (go_keep)
    (first | (go_at_call 47; refine (bSide_any b _ (by first | exact .inl rfl | exact .inr rfl) _).mono ?_; rintro e w2 ⟨rfl, rfl⟩; first | rw [show sAt 1 = 3 from rfl] | rw [show sAt 2 = 5 from rfl]))
  all_goals
    go_wp2
    refine bodyPost_ret (v := stateV ph n0 n1 td) (by simp [results, Tryz.results82, go_sem, stateV]) rfl ⟨rfl, ?_⟩
    repeat (first | exact Fr.refl _ _ | refine Fr.alloc ?_ _ | refine Fr.drew ?_ | refine Fr.setAt ?_ _ (.inl (by omega)) _ _)

end Go.Proofs.YtdibeaipllmifaaGreat
