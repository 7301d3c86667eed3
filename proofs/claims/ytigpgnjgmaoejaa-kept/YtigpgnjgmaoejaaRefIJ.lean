/- Contract of the document's turns (Cancel, Change): wrong numbers, none such, Cancel. Conditions: the pit lies in memory, fewer than 100000 orders rest. -/
import Derived.Test.YtigpgnjgmaoejaaRefFG
import Derived.Test.YtigpgnjgmaoejaaRefH
namespace Go.Proofs.Ytigpgnjgmaoejaa
open Go.RowKit

def turnOk (c : Cmd) : Bool := inB c.id 1 1000000000 && inB c.trader 1 1000 && (c.what != 3 || (inB c.price 1 1000000 && inB c.count 1 1000000))

theorem turnOk_parts {c : Cmd} (h : turnOk c = true) : inB c.id 1 1000000000 = true ∧ inB c.trader 1 1000 = true ∧ (c.what = 3 → inB c.price 1 1000000 = true ∧ inB c.count 1 1000000 = true) := by
  simp only [turnOk, Bool.and_eq_true, Bool.or_eq_true, bne_iff_ne, ne_eq] at h
  exact ⟨h.1.1, h.1.2, fun e => h.2.resolve_left (fun n => n e)⟩

end Go.Proofs.Ytigpgnjgmaoejaa

/- Contract of the document's turns (Cancel, Change): Cancel of an order that rests, Change to fewer, Change to another order. Conditions: the pit lies in memory, fewer than 100000 orders rest, for another order: no book trades. -/
namespace Go.Proofs.Ytigpgnjgmaoejaa
open Go.RowKit

end Go.Proofs.Ytigpgnjgmaoejaa
