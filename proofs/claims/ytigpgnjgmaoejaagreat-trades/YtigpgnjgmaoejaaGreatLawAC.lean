/- The lists that came out and their owner (Book): how they lie in memory, and what ownsEvents does. Conditions: the book lies in memory, the list that is handed over is none of its memory, the lengths are within the model's bound. -/
import Derived.Test.YtigpgnjgmaoejaaGreatLay
import Derived.Test.YtigpgnjgmaoejaaGreatRefHK
import Derived.Deep.RegionHeld3
namespace Go.Proofs.YtigpgnjgmaoejaaGreat
open Go.RowKit

def markE (m : Int) : Ev := ⟨m, m, 0, 0, 0, 0⟩
def markL (m : Int) : Lev := ⟨m, m, 0⟩

/-- The book: each block has a part (0: itself, 1 to 4: its lists, 5: the lists that came out, 6: none of its memory). -/
structure BookAt (w : World) (bb : Nat) (ro : Nat → Nat) (E L : List (Value × Int)) (nx : Int) (ve vm vl vn : Value) : Prop where
  blk : w.heap[bb]? = some (.cells #[ve, vm, vl, vn, .slice none 0 0, .slice none 0 0, .int .i64 nx] 64 (0, 0))
  oe : Cs w 0 38 ve (E.map (·.1))
  om : Cs w 0 3 vm (E.map fun x => .int .i64 x.2)
  ol : Cs w 0 98 vl (L.map (·.1))
  on : Cs w 0 3 vn (L.map fun x => .int .i64 x.2)
  ees : ∀ x ∈ E, ∃ n, Es w 0 x.1 (List.replicate n (markE x.2))
  lls : ∀ x ∈ L, ∃ n, Ls w 0 x.1 (List.replicate n (markL x.2))
  r0 : ro bb = 0
  r1 : ∀ k, OwnS ve k → ro k = 1
  r2 : ∀ k, OwnS vm k → ro k = 2
  r3 : ∀ k, OwnS vl k → ro k = 3
  r4 : ∀ k, OwnS vn k → ro k = 4
  r5 : ∀ x ∈ E ++ L, ∀ k, OwnS x.1 k → ro k = 5
  rlt : ∀ k, ro k < 6 → k < w.heap.size

/-- The memory of the book. -/
def RoS (ro : Nat → Nat) : Nat → Prop := fun k => ro k < 6

theorem BookAt.fr {S : Nat → Prop} {w w' : World} {bb : Nat} {ro : Nat → Nat} {E L : List (Value × Int)} {nx : Int} {ve vm vl vn : Value} (h : BookAt w bb ro E L nx ve vm vl vn) (hf : Fr S w w') (hS : ∀ k, ro k < 6 → ¬ S k) : BookAt w' bb ro E L nx ve vm vl vn where
  blk := hf.heap h.blk (hS _ (by rw [h.r0]; omega))
  oe := own_fr h.oe hf fun g hg => hS _ (by rw [h.r1 g hg]; omega)
  om := own_fr h.om hf fun g hg => hS _ (by rw [h.r2 g hg]; omega)
  ol := own_fr h.ol hf fun g hg => hS _ (by rw [h.r3 g hg]; omega)
  on := own_fr h.on hf fun g hg => hS _ (by rw [h.r4 g hg]; omega)
  ees := fun x hx => let ⟨n, hn⟩ := h.ees x hx; ⟨n, own_fr hn hf fun g hg => hS _ (by rw [h.r5 x (List.mem_append_left _ hx) g hg]; omega)⟩
  lls := fun x hx => let ⟨n, hn⟩ := h.lls x hx; ⟨n, own_fr hn hf fun g hg => hS _ (by rw [h.r5 x (List.mem_append_right _ hx) g hg]; omega)⟩
  r0 := h.r0
  r1 := h.r1
  r2 := h.r2
  r3 := h.r3
  r4 := h.r4
  r5 := h.r5
  rlt := fun k hk => Nat.lt_of_lt_of_le (h.rlt k hk) hf.size

/-- An event is stored at a place of a list. -/
theorem es_store {w : World} {base g n cap : Nat} {L : List Ev} (h : Es w base (.slice (some ⟨g, 0, none⟩) n cap) L) (i : Nat) (hi : i < L.length) (y : Ev) :
    Es ((((((w.setCell ⟨g, i * 6, none⟩ (.int .i64 y.what)).setCell ⟨g, i * 6 + 1, none⟩ (.int .i64 y.id)).setCell ⟨g, i * 6 + 2, none⟩ (.int .i64 y.other)).setCell ⟨g, i * 6 + 3, none⟩ (.int .i64 y.price)).setCell ⟨g, i * 6 + 4, none⟩ (.int .i64 y.count)).setCell ⟨g, i * 6 + 5, none⟩ (.int .i64 y.err)) base (.slice (some ⟨g, 0, none⟩) n cap) (L.set i y) := by
  have h0 := own_set Ev.len h i 0 hi (by omega) { L[i] with what := y.what } (.int .i64 y.what) rfl
  have h1 := own_set Ev.len h0 i 1 (by simpa using hi) (by omega) { L[i] with what := y.what, id := y.id } (.int .i64 y.id) (by simp [Ev.cells])
  have h2 := own_set Ev.len h1 i 2 (by simpa using hi) (by omega) { L[i] with what := y.what, id := y.id, other := y.other } (.int .i64 y.other) (by simp [Ev.cells])
  have h3 := own_set Ev.len h2 i 3 (by simpa using hi) (by omega) { L[i] with what := y.what, id := y.id, other := y.other, price := y.price } (.int .i64 y.price) (by simp [Ev.cells])
  have h4 := own_set Ev.len h3 i 4 (by simpa using hi) (by omega) { L[i] with what := y.what, id := y.id, other := y.other, price := y.price, count := y.count } (.int .i64 y.count) (by simp [Ev.cells])
  have h5 := own_set Ev.len h4 i 5 (by simpa using hi) (by omega) y (.int .i64 y.err) (by simp [Ev.cells])
  simp only [List.set_set] at h5
  exact h5

/-- What is left of the list as it was, and what is written already. -/
def fillTo (L : List Ev) (m : Ev) (k : Nat) : List Ev := List.replicate k m ++ L.drop k
theorem fillTo_len {L : List Ev} {m : Ev} {k : Nat} (h : k ≤ L.length) : (fillTo L m k).length = L.length := by simp [fillTo]; omega
theorem fillTo_set {L : List Ev} {m : Ev} {k : Nat} (h : k < L.length) : (fillTo L m k).set k m = fillTo L m (k + 1) := by
  unfold fillTo
  rw [List.set_append_right _ _ (by simp), List.length_replicate, Nat.sub_self, List.drop_eq_getElem_cons h, List.set_cons_zero, List.replicate_succ', List.append_assoc]
  rfl

/-- Two lists that were laid out of one by append: the first is as it was behind the second. -/
theorem es_again {w w' : World} {v : Value} {n : Nat} {m : Ev} {g1 c1 g2 c2 j d B : Nat}
    (h1 : Es w 0 (.slice (some ⟨g1, 0, none⟩) (n + j) c1) (List.replicate (n + j) m))
    (ho1 : v = .slice (some ⟨g1, 0, none⟩) n c1 ∨ B ≤ g1) (hlt : ∀ k, OwnS v k → k < B)
    (h2 : Es w' 0 (.slice (some ⟨g2, 0, none⟩) (n + (j + d)) c2) (List.replicate (n + (j + d)) m))
    (ho2 : (v = .slice (some ⟨g2, 0, none⟩) n c2 ∧ Fr (OwnS v) w w') ∨ Fr No w w') : Es w' 0 (.slice (some ⟨g1, 0, none⟩) (n + j) c1) (List.replicate (n + j) m) := by
  rcases ho2 with ⟨e2, hf⟩ | hf
  · rcases ho1 with e1 | e1
    · rw [e1] at e2
      simp only [Value.slice.injEq, Option.some.injEq, Addr.mk.injEq, and_true, true_and] at e2
      obtain ⟨rfl, rfl⟩ := e2
      have h3 : w'.ownsRow 0 42 6 (.slice (some ⟨g1, 0, none⟩) ((n + j) + d) c1) ((n + j) + d) ((List.replicate (n + j) m).flatMap Ev.cells ++ (List.replicate d m).flatMap Ev.cells) := by
        have := h2
        unfold Es at this
        rw [List.length_replicate, show n + (j + d) = (n + j) + d from by omega, ← List.replicate_append_replicate, List.flatMap_append] at this
        exact this
      have := own_prefix h3 (by rw [flat_len Ev.len, List.length_replicate])
      unfold Es
      rw [List.length_replicate]
      exact this
    · exact own_fr h1 hf (fun g hg e => by have := own_eq hg; have := hlt _ e; omega)
  · exact own_fr h1 hf (fun _ _ => id)

/-- Where a list that was laid by append lies, the temporary ahead of it aside. -/
theorem keep_at {v : Value} {g n c : Nat} {w w0 w' : World} (h0 : Fr No w w0) (h : (v = .slice (some ⟨g, 0, none⟩) n c ∧ Fr (OwnS v) w0 w') ∨ (g = w0.heap.size ∧ Fr No w0 w')) : (v = .slice (some ⟨g, 0, none⟩) n c ∧ Fr (OwnS v) w w') ∨ Fr No w w' :=
  h.imp (fun h => ⟨h.1, h0.of_no.same h.2⟩) (fun h => h0.quiet h.2)
theorem keep_where {v : Value} {g n c B : Nat} {w w0 w' : World} (h0 : Fr No w w0) (hB : B ≤ w.heap.size) (h : (v = .slice (some ⟨g, 0, none⟩) n c ∧ Fr (OwnS v) w0 w') ∨ (g = w0.heap.size ∧ Fr No w0 w')) : v = .slice (some ⟨g, 0, none⟩) n c ∨ B ≤ g :=
  h.imp (fun h => h.1) (fun h => by have := h0.size; omega)
theorem where_own {v : Value} {g n c B : Nat} (h : v = .slice (some ⟨g, 0, none⟩) n c ∨ B ≤ g) : OwnS v g ∨ B ≤ g := h.imp (fun h => by rw [h]; rfl) id

end Go.Proofs.YtigpgnjgmaoejaaGreat

/- The end of ownsEvents, as memory: the four lists are kept. Conditions: as in the hypotheses. -/
namespace Go.Proofs.YtigpgnjgmaoejaaGreat
open Go.RowKit

def roNew (ro : Nat → Nat) (p q g4 g6 : Nat) (l : Value) (g1 g2 g3 k : Nat) : Nat :=
  if k = g4 then p else if k = g6 then q else if l.ownBlock = some k ∨ k = g1 ∨ k = g2 ∨ k = g3 then 5 else ro k

theorem own_final {w w3 w4 w6 : World} {bb : Nat} {ro : Nat → Nat} {E L : List (Value × Int)} {mk : Int} {ve vm vl vn l : Value} {n g1 c1 g2 c2 g3 c3 g4 n4 c4 g6 n6 c6 : Nat}
    (hb : BookAt w3 bb ro E L mk ve vm vl vn) (hbw : ∀ k, ro k < 6 → k < w.heap.size) (hro : ∀ k, OwnS l k → 6 ≤ ro k) (hlw : ∀ k, OwnS l k → k < w.heap.size) (hw3 : w.heap.size ≤ w3.heap.size)
    (hl : Es w3 0 l (List.replicate n (markE mk)))
    (h1 : Es w3 0 (.slice (some ⟨g1, 0, none⟩) (n + 1) c1) (List.replicate (n + 1) (markE mk))) (h2 : Es w3 0 (.slice (some ⟨g2, 0, none⟩) (n + 2) c2) (List.replicate (n + 2) (markE mk)))
    (h3 : Es w3 0 (.slice (some ⟨g3, 0, none⟩) (n + 3) c3) (List.replicate (n + 3) (markE mk)))
    (k1 : OwnS l g1 ∨ w.heap.size ≤ g1) (k2 : OwnS l g2 ∨ w.heap.size ≤ g2) (k3 : OwnS l g3 ∨ w.heap.size ≤ g3)
    (hn4 : Cs w4 0 38 (.slice (some ⟨g4, 0, none⟩) n4 c4) (List.map Prod.fst E ++ [l, .slice (some ⟨g1, 0, none⟩) (n + 1) c1, .slice (some ⟨g2, 0, none⟩) (n + 2) c2, .slice (some ⟨g3, 0, none⟩) (n + 3) c3]))
    (hf4 : Fr (OwnS ve) w3 w4) (k4 : OwnS ve g4 ∨ w3.heap.size ≤ g4)
    (hn6 : Cs w6 0 3 (.slice (some ⟨g6, 0, none⟩) n6 c6) (List.map (fun x => .int .i64 x.2) E ++ [.int .i64 mk, .int .i64 mk, .int .i64 mk, .int .i64 mk]))
    (hf6 : Fr (OwnS vm) (w4.setCell ⟨bb, 0, none⟩ (.slice (some ⟨g4, 0, none⟩) n4 c4)) w6) (k6 : OwnS vm g6 ∨ w4.heap.size ≤ g6)
    (hbk : w6.heap[bb]? = some (.cells #[.slice (some ⟨g4, 0, none⟩) n4 c4, vm, vl, vn, .slice none 0 0, .slice none 0 0, .int .i64 mk] 64 (0, 0))) :
    BookAt (w6.setCell ⟨bb, 1, none⟩ (.slice (some ⟨g6, 0, none⟩) n6 c6)) bb (roNew ro 1 2 g4 g6 l g1 g2 g3)
      (E ++ [(l, mk), (.slice (some ⟨g1, 0, none⟩) (n + 1) c1, mk), (.slice (some ⟨g2, 0, none⟩) (n + 2) c2, mk), (.slice (some ⟨g3, 0, none⟩) (n + 3) c3, mk)]) L mk
      (.slice (some ⟨g4, 0, none⟩) n4 c4) (.slice (some ⟨g6, 0, none⟩) n6 c6) vl vn ∧
    Fr (fun k => ro k < 6) w3 (w6.setCell ⟨bb, 1, none⟩ (.slice (some ⟨g6, 0, none⟩) n6 c6)) ∧
    ∀ k, roNew ro 1 2 g4 g6 l g1 g2 g3 k < 6 → ro k < 6 ∨ OwnS l k ∨ w.heap.size ≤ k := by
  have hbb : bb < w.heap.size := hbw bb (by rw [hb.r0]; omega)
  have hlt4 : g4 < w4.heap.size := (hn4.lt g4 rfl).2
  have hlt6 : g6 < w6.heap.size := (hn6.lt g6 rfl).2
  have hs4 := hf4.size
  have hs6 := hf6.size
  simp only [World.setCell, Array.size_modify] at hs6
  have hg4 : ro g4 = 1 ∧ g4 < w.heap.size ∨ w3.heap.size ≤ g4 := k4.imp (fun h => ⟨hb.r1 _ h, hbw _ (by rw [hb.r1 _ h]; omega)⟩) id
  have hg6 : ro g6 = 2 ∧ g6 < w.heap.size ∨ w4.heap.size ≤ g6 := k6.imp (fun h => ⟨hb.r2 _ h, hbw _ (by rw [hb.r2 _ h]; omega)⟩) id
  have h46 : g4 ≠ g6 := by rintro rfl; rcases hg4 with h | h <;> rcases hg6 with h' | h' <;> omega
  have e1 : ∀ g, (OwnS l g ∨ w.heap.size ≤ g) → g < w3.heap.size → g ≠ g4 ∧ g ≠ g6 ∧ 6 ≤ ro g := fun g hg hg3 => by
    rcases hg with h | h
    · have a := hro g h
      refine ⟨fun e => ?_, fun e => ?_, a⟩
      · subst e; rcases hg4 with h' | h' <;> omega
      · subst e; rcases hg6 with h' | h' <;> omega
    · refine ⟨fun e => ?_, fun e => ?_, ?_⟩
      · subst e; rcases hg4 with h' | h' <;> omega
      · subst e; rcases hg6 with h' | h' <;> omega
      · rcases Nat.lt_or_ge (ro g) 6 with h' | h'
        · have := hbw g h'; omega
        · exact h'
  have l1 := e1 g1 k1 (h1.lt g1 rfl).2
  have l2 := e1 g2 k2 (h2.lt g2 rfl).2
  have l3 := e1 g3 k3 (h3.lt g3 rfl).2
  have ll : ∀ k, OwnS l k → k ≠ g4 ∧ k ≠ g6 ∧ 6 ≤ ro k := fun k hk => e1 k (.inl hk) (by have := hlw k hk; omega)
  have old : ∀ k, ro k < 6 → ro k ≠ 1 → ro k ≠ 2 → roNew ro 1 2 g4 g6 l g1 g2 g3 k = ro k := fun k hk n1 n2 => by
    unfold roNew
    have := hbw k hk
    rw [if_neg (by rintro rfl; rcases hg4 with h' | h' <;> omega), if_neg (by rintro rfl; rcases hg6 with h' | h' <;> omega), if_neg]
    rintro (h | rfl | rfl | rfl)
    · have := hro k h; omega
    · have := l1.2.2; omega
    · have := l2.2.2; omega
    · have := l3.2.2; omega
  have five : ∀ k, (OwnS l k ∨ k = g1 ∨ k = g2 ∨ k = g3) → roNew ro 1 2 g4 g6 l g1 g2 g3 k = 5 := fun k hk => by
    have : k ≠ g4 ∧ k ≠ g6 := by
      rcases hk with h | rfl | rfl | rfl
      · exact ⟨(ll k h).1, (ll k h).2.1⟩
      · exact ⟨l1.1, l1.2.1⟩
      · exact ⟨l2.1, l2.2.1⟩
      · exact ⟨l3.1, l3.2.1⟩
    unfold roNew
    rw [if_neg this.1, if_neg this.2, if_pos (show l.ownBlock = some k ∨ k = g1 ∨ k = g2 ∨ k = g3 from hk)]
  have hF : Fr (fun k => ro k < 3) w3 (w6.setCell ⟨bb, 1, none⟩ (.slice (some ⟨g6, 0, none⟩) n6 c6)) := by
    have f1 : Fr (fun k => ro k < 3) w3 (w4.setCell ⟨bb, 0, none⟩ (.slice (some ⟨g4, 0, none⟩) n4 c4)) :=
      Fr.setAt (S := fun k => ro k < 3) (hf4.mono fun k _ hk => by rw [hb.r1 k hk]; omega) bb (.inr (by simp only [hb.r0]; omega)) 0 _
    have f2 : Fr (fun k => ro k < 3) (w4.setCell ⟨bb, 0, none⟩ (.slice (some ⟨g4, 0, none⟩) n4 c4)) w6 := hf6.mono fun k _ hk => by rw [hb.r2 k hk]; omega
    exact Fr.setAt (S := fun k => ro k < 3) (f1.same f2) bb (.inr (by simp only [hb.r0]; omega)) 1 _
  have big : ∀ k, (OwnS l k ∨ k = g1 ∨ k = g2 ∨ k = g3) → ¬ ro k < 3 := fun k hk => by
    rcases hk with h | rfl | rfl | rfl
    · have := hro k h; omega
    · have := l1.2.2; omega
    · have := l2.2.2; omega
    · have := l3.2.2; omega
  have hs7 := hF.size
  refine ⟨{ blk := (heap_set hbk 1 _).trans rfl, oe := ?_, om := ?_, ol := ?_, on := ?_, ees := ?_, lls := ?_, r0 := ?_, r1 := ?_, r2 := ?_, r3 := ?_, r4 := ?_, r5 := ?_, rlt := ?_ }, hF.mono fun k _ hk => by omega, ?_⟩
  · rw [List.map_append]
    refine own_fr (own_fr (own_fr (S := Is bb) hn4 ((Fr.refl _ _).setAt bb (.inr (Is.self bb)) 0 _) ?_) hf6 ?_) ((Fr.refl (Is bb) _).setAt bb (.inr (Is.self bb)) 1 _) ?_
    · intro g hg e; have := own_eq hg; have : g = bb := e; rcases hg4 with h' | h'
      · have := hb.r0; simp_all
      · omega
    · intro g hg e
      have e1 := own_eq hg
      subst e1
      have := hb.r2 _ e
      have := hbw g (by omega)
      rcases hg4 with h' | h' <;> omega
    · intro g hg e; have := own_eq hg; have : g = bb := e; rcases hg4 with h' | h'
      · have := hb.r0; simp_all
      · omega
  · rw [List.map_append]
    refine own_fr hn6 ((Fr.refl (Is bb) _).setAt bb (.inr (Is.self bb)) 1 _) ?_
    intro g hg e; have := own_eq hg; have : g = bb := e; rcases hg6 with h' | h'
    · have := hb.r0; simp_all
    · omega
  · exact own_fr hb.ol hF fun g hg => by have := hb.r3 g hg; omega
  · exact own_fr hb.on hF fun g hg => by have := hb.r4 g hg; omega
  · intro x hx
    rcases List.mem_append.1 hx with hx | hx
    · obtain ⟨m, hm⟩ := hb.ees x hx
      exact ⟨m, own_fr hm hF fun g hg => by have := hb.r5 x (List.mem_append_left _ hx) g hg; omega⟩
    · simp only [List.mem_cons, List.not_mem_nil, or_false] at hx
      rcases hx with rfl | rfl | rfl | rfl
      · exact ⟨n, own_fr hl hF fun g hg => big g (.inl hg)⟩
      · exact ⟨n + 1, own_fr h1 hF fun g hg => big g (.inr (.inl (own_eq hg)))⟩
      · exact ⟨n + 2, own_fr h2 hF fun g hg => big g (.inr (.inr (.inl (own_eq hg))))⟩
      · exact ⟨n + 3, own_fr h3 hF fun g hg => big g (.inr (.inr (.inr (own_eq hg))))⟩
  · intro x hx
    obtain ⟨m, hm⟩ := hb.lls x hx
    exact ⟨m, own_fr hm hF fun g hg => by have := hb.r5 x (List.mem_append_right _ hx) g hg; omega⟩
  · rw [old bb (by rw [hb.r0]; omega) (by rw [hb.r0]; omega) (by rw [hb.r0]; omega), hb.r0]
  · intro k hk
    have := own_eq hk
    subst this
    simp [roNew]
  · intro k hk
    have := own_eq hk
    subst this
    unfold roNew
    rw [if_neg (Ne.symm h46), if_pos rfl]
  · intro k hk; have := hb.r3 k hk; rw [old k (by omega) (by omega) (by omega), this]
  · intro k hk; have := hb.r4 k hk; rw [old k (by omega) (by omega) (by omega), this]
  · intro x hx k hk
    rcases List.mem_append.1 hx with hx | hx
    · rcases List.mem_append.1 hx with hx | hx
      · have := hb.r5 x (List.mem_append_left _ hx) k hk
        rw [old k (by omega) (by omega) (by omega), this]
      · simp only [List.mem_cons, List.not_mem_nil, or_false] at hx
        rcases hx with rfl | rfl | rfl | rfl
        · exact five k (.inl hk)
        · exact five k (.inr (.inl (own_eq hk)))
        · exact five k (.inr (.inr (.inl (own_eq hk))))
        · exact five k (.inr (.inr (.inr (own_eq hk))))
    · have := hb.r5 x (List.mem_append_right _ hx) k hk
      rw [old k (by omega) (by omega) (by omega), this]
  · intro k hk
    have hsz7 : w6.heap.size ≤ (w6.setCell ⟨bb, 1, none⟩ (.slice (some ⟨g6, 0, none⟩) n6 c6)).heap.size := by simp [World.setCell]
    unfold roNew at hk
    split at hk
    · omega
    · split at hk
      · omega
      · split at hk
        · rename_i h
          rcases h with h | rfl | rfl | rfl
          · have := hlw k h; omega
          · have := (h1.lt k rfl).2; omega
          · have := (h2.lt k rfl).2; omega
          · have := (h3.lt k rfl).2; omega
        · have := hbw k hk; omega
  · intro k hk
    unfold roNew at hk
    split at hk
    · rename_i h; subst h; rcases hg4 with h' | h'
      · left; omega
      · right; right; omega
    · split at hk
      · rename_i h; subst h; rcases hg6 with h' | h'
        · left; omega
        · right; right; omega
      · split at hk
        · rename_i h
          rcases h with h | rfl | rfl | rfl
          · exact .inr (.inl h)
          · exact .inr k1
          · exact .inr k2
          · exact .inr k3
        · exact .inl hk
end Go.Proofs.YtigpgnjgmaoejaaGreat
