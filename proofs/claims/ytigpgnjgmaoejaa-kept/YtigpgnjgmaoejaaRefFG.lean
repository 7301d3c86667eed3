/- Contract of the document's comes (New) in books that gather. Conditions: the pit lies in memory, fewer than 100000 orders rest, no book trades. -/
import Derived.Test.YtigpgnjgmaoejaaRefE
namespace Go.Proofs.Ytigpgnjgmaoejaa
open Go.RowKit

def sideOk (s : Int) : Bool := s == 1 || s == 2
def newOk (c : Cmd) : Bool :=
  inB c.id 1 1000000000 && inB c.trader 1 1000 && inB c.book 1 8 && sideOk c.side && inB c.kind 1 5 && (c.kind == 2 || inB c.price 1 1000000) && inB c.count 1 1000000

theorem inB_true {n lo hi : Int} (h : inB n lo hi = true) : lo ≤ n ∧ n ≤ hi := by simpa [inB] using h
theorem inB_false {n lo hi : Int} (h : inB n lo hi = false) : n < lo ∨ hi < n := by
  simp [inB] at h; omega

theorem newOk_parts {c : Cmd} (h : newOk c = true) : inB c.id 1 1000000000 = true ∧ inB c.trader 1 1000 = true ∧ inB c.book 1 8 = true ∧ (c.side = 1 ∨ c.side = 2) ∧ 1 ≤ c.kind ∧ c.kind ≤ 5 ∧ (c.kind = 2 ∨ inB c.price 1 1000000 = true) ∧ inB c.count 1 1000000 = true := by
  simp only [newOk, sideOk, Bool.and_eq_true, Bool.or_eq_true, beq_iff_eq] at h
  obtain ⟨⟨⟨⟨⟨⟨h1, h2⟩, h3⟩, h4⟩, h5⟩, h6⟩, h7⟩ := h
  have := inB_true h5
  exact ⟨h1, h2, h3, h4, this.1, this.2, h6, h7⟩

end Go.Proofs.Ytigpgnjgmaoejaa

/- Contract of the document's comes (New) in books that gather, further: another kind, a full book, an order that comes to rest. Conditions: the pit lies in memory, fewer than 100000 orders rest, no book trades. -/
namespace Go.Proofs.Ytigpgnjgmaoejaa
open Go.RowKit

end Go.Proofs.Ytigpgnjgmaoejaa
