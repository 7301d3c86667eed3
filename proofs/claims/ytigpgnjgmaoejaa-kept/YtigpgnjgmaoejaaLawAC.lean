/- The lists that came out and their owner (Book): how they lie in memory, and what ownsEvents does. Conditions: the book lies in memory, the list that is handed over is none of its memory, the lengths are within the model's bound. -/
import Derived.Test.YtigpgnjgmaoejaaLay
import Derived.Test.YtigpgnjgmaoejaaRefK
import Derived.Deep.RegionHeld3
namespace Go.Proofs.Ytigpgnjgmaoejaa
open Go.RowKit

def markE (m : Int) : Ev := ⟨m, m, 0, 0, 0, 0⟩
def markL (m : Int) : Lev := ⟨m, m, 0⟩

/-- The memory of the book. -/
def RoS (ro : Nat → Nat) : Nat → Prop := fun k => ro k < 6

/-- An event is stored at a place of a list. -/
theorem es_store {w : World} {base g n cap : Nat} {L : List Ev} (h : Es w base (.slice (some ⟨g, 0, none⟩) n cap) L) (i : Nat) (hi : i < L.length) (y : Ev) :
    Es ((((((w.setCell ⟨g, i * 6, none⟩ (.int .i64 y.what)).setCell ⟨g, i * 6 + 1, none⟩ (.int .i64 y.id)).setCell ⟨g, i * 6 + 2, none⟩ (.int .i64 y.other)).setCell ⟨g, i * 6 + 3, none⟩ (.int .i64 y.price)).setCell ⟨g, i * 6 + 4, none⟩ (.int .i64 y.count)).setCell ⟨g, i * 6 + 5, none⟩ (.int .i64 y.err)) base (.slice (some ⟨g, 0, none⟩) n cap) (L.set i y) := by
  have h0 := own_set Ev.len h i 0 hi (by omega) { L[i] with what := y.what } (.int .i64 y.what) rfl
  have h1 := own_set Ev.len h0 i 1 (by simpa using hi) (by omega) { L[i] with what := y.what, id := y.id } (.int .i64 y.id) (by simp [Ev.cells])
  have h2 := own_set Ev.len h1 i 2 (by simpa using hi) (by omega) { L[i] with what := y.what, id := y.id, other := y.other } (.int .i64 y.other) (by simp [Ev.cells])
  have h3 := own_set Ev.len h2 i 3 (by simpa using hi) (by omega) { L[i] with what := y.what, id := y.id, other := y.other, price := y.price } (.int .i64 y.price) (by simp [Ev.cells])
  have h4 := own_set Ev.len h3 i 4 (by simpa using hi) (by omega) { L[i] with what := y.what, id := y.id, other := y.other, price := y.price, count := y.count } (.int .i64 y.count) (by simp [Ev.cells])
  have h5 := own_set Ev.len h4 i 5 (by simpa using hi) (by omega) y (.int .i64 y.err) (by simp [Ev.cells])
  simp only [List.set_set] at h5
  exact h5

/-- What is left of the list as it was, and what is written already. -/
def fillTo (L : List Ev) (m : Ev) (k : Nat) : List Ev := List.replicate k m ++ L.drop k
theorem fillTo_len {L : List Ev} {m : Ev} {k : Nat} (h : k ≤ L.length) : (fillTo L m k).length = L.length := by simp [fillTo]; omega
theorem fillTo_set {L : List Ev} {m : Ev} {k : Nat} (h : k < L.length) : (fillTo L m k).set k m = fillTo L m (k + 1) := by
  unfold fillTo
  rw [List.set_append_right _ _ (by simp), List.length_replicate, Nat.sub_self, List.drop_eq_getElem_cons h, List.set_cons_zero, List.replicate_succ', List.append_assoc]
  rfl

/-- Two lists that were laid out of one by append: the first is as it was behind the second. -/
theorem es_again {w w' : World} {v : Value} {n : Nat} {m : Ev} {g1 c1 g2 c2 j d B : Nat}
    (h1 : Es w 0 (.slice (some ⟨g1, 0, none⟩) (n + j) c1) (List.replicate (n + j) m))
    (ho1 : v = .slice (some ⟨g1, 0, none⟩) n c1 ∨ B ≤ g1) (hlt : ∀ k, OwnS v k → k < B)
    (h2 : Es w' 0 (.slice (some ⟨g2, 0, none⟩) (n + (j + d)) c2) (List.replicate (n + (j + d)) m))
    (ho2 : (v = .slice (some ⟨g2, 0, none⟩) n c2 ∧ Fr (OwnS v) w w') ∨ Fr No w w') : Es w' 0 (.slice (some ⟨g1, 0, none⟩) (n + j) c1) (List.replicate (n + j) m) := by
  rcases ho2 with ⟨e2, hf⟩ | hf
  · rcases ho1 with e1 | e1
    · rw [e1] at e2
      simp only [Value.slice.injEq, Option.some.injEq, Addr.mk.injEq, and_true, true_and] at e2
      obtain ⟨rfl, rfl⟩ := e2
      have h3 : w'.ownsRow 0 31 6 (.slice (some ⟨g1, 0, none⟩) ((n + j) + d) c1) ((n + j) + d) ((List.replicate (n + j) m).flatMap Ev.cells ++ (List.replicate d m).flatMap Ev.cells) := by
        have := h2
        unfold Es at this
        rw [List.length_replicate, show n + (j + d) = (n + j) + d from by omega, ← List.replicate_append_replicate, List.flatMap_append] at this
        exact this
      have := own_prefix h3 (by rw [flat_len Ev.len, List.length_replicate])
      unfold Es
      rw [List.length_replicate]
      exact this
    · exact own_fr h1 hf (fun g hg e => by have := own_eq hg; have := hlt _ e; omega)
  · exact own_fr h1 hf (fun _ _ => id)

/-- Where a list that was laid by append lies, the temporary ahead of it aside. -/
theorem keep_at {v : Value} {g n c : Nat} {w w0 w' : World} (h0 : Fr No w w0) (h : (v = .slice (some ⟨g, 0, none⟩) n c ∧ Fr (OwnS v) w0 w') ∨ (g = w0.heap.size ∧ Fr No w0 w')) : (v = .slice (some ⟨g, 0, none⟩) n c ∧ Fr (OwnS v) w w') ∨ Fr No w w' :=
  h.imp (fun h => ⟨h.1, h0.of_no.same h.2⟩) (fun h => h0.quiet h.2)
theorem keep_where {v : Value} {g n c B : Nat} {w w0 w' : World} (h0 : Fr No w w0) (hB : B ≤ w.heap.size) (h : (v = .slice (some ⟨g, 0, none⟩) n c ∧ Fr (OwnS v) w0 w') ∨ (g = w0.heap.size ∧ Fr No w0 w')) : v = .slice (some ⟨g, 0, none⟩) n c ∨ B ≤ g :=
  h.imp (fun h => h.1) (fun h => by have := h0.size; omega)
theorem where_own {v : Value} {g n c B : Nat} (h : v = .slice (some ⟨g, 0, none⟩) n c ∨ B ≤ g) : OwnS v g ∨ B ≤ g := h.imp (fun h => by rw [h]; rfl) id

end Go.Proofs.Ytigpgnjgmaoejaa

/- The end of ownsEvents, as memory: the four lists are kept. Conditions: as in the hypotheses. -/
namespace Go.Proofs.Ytigpgnjgmaoejaa
open Go.RowKit

def roNew (ro : Nat → Nat) (p q g4 g6 : Nat) (l : Value) (g1 g2 g3 k : Nat) : Nat :=
  if k = g4 then p else if k = g6 then q else if l.ownBlock = some k ∨ k = g1 ∨ k = g2 ∨ k = g3 then 5 else ro k

end Go.Proofs.Ytigpgnjgmaoejaa
