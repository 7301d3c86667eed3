/- The lists of levels and their owner, small laws: as for lists of events. No condition. -/
import Derived.Test.YtigpgnjgmaoejaaGreatLawB
namespace Go.Proofs.YtigpgnjgmaoejaaGreat
open Go.RowKit

/-- A level is stored at a place of a list. -/
theorem ls_store {w : World} {base g n cap : Nat} {L : List Lev} (h : Ls w base (.slice (some ⟨g, 0, none⟩) n cap) L) (i : Nat) (hi : i < L.length) (y : Lev) :
    Ls (((w.setCell ⟨g, i * 3, none⟩ (.int .i64 y.price)).setCell ⟨g, i * 3 + 1, none⟩ (.int .i64 y.count)).setCell ⟨g, i * 3 + 2, none⟩ (.int .i64 y.orders)) base (.slice (some ⟨g, 0, none⟩) n cap) (L.set i y) := by
  have h0 := own_set Lev.len h i 0 hi (by omega) { L[i] with price := y.price } (.int .i64 y.price) rfl
  have h1 := own_set Lev.len h0 i 1 (by simpa using hi) (by omega) { L[i] with price := y.price, count := y.count } (.int .i64 y.count) (by simp [Lev.cells])
  have h2 := own_set Lev.len h1 i 2 (by simpa using hi) (by omega) y (.int .i64 y.orders) (by simp [Lev.cells])
  simp only [List.set_set] at h2
  exact h2

/-- What is left of the list as it was, and what is written already. -/
def fillToL (L : List Lev) (m : Lev) (k : Nat) : List Lev := List.replicate k m ++ L.drop k
theorem fillToL_len {L : List Lev} {m : Lev} {k : Nat} (h : k ≤ L.length) : (fillToL L m k).length = L.length := by simp [fillToL]; omega
theorem fillToL_set {L : List Lev} {m : Lev} {k : Nat} (h : k < L.length) : (fillToL L m k).set k m = fillToL L m (k + 1) := by
  unfold fillToL
  rw [List.set_append_right _ _ (by simp), List.length_replicate, Nat.sub_self, List.drop_eq_getElem_cons h, List.set_cons_zero, List.replicate_succ', List.append_assoc]
  rfl

/-- Two lists that were laid out of one by append: the first is as it was behind the second. -/
theorem ls_again {w w' : World} {v : Value} {n : Nat} {m : Lev} {g1 c1 g2 c2 j d B : Nat}
    (h1 : Ls w 0 (.slice (some ⟨g1, 0, none⟩) (n + j) c1) (List.replicate (n + j) m))
    (ho1 : v = .slice (some ⟨g1, 0, none⟩) n c1 ∨ B ≤ g1) (hlt : ∀ k, OwnS v k → k < B)
    (h2 : Ls w' 0 (.slice (some ⟨g2, 0, none⟩) (n + (j + d)) c2) (List.replicate (n + (j + d)) m))
    (ho2 : (v = .slice (some ⟨g2, 0, none⟩) n c2 ∧ Fr (OwnS v) w w') ∨ Fr No w w') : Ls w' 0 (.slice (some ⟨g1, 0, none⟩) (n + j) c1) (List.replicate (n + j) m) := by
  rcases ho2 with ⟨e2, hf⟩ | hf
  · rcases ho1 with e1 | e1
    · rw [e1] at e2
      simp only [Value.slice.injEq, Option.some.injEq, Addr.mk.injEq, and_true, true_and] at e2
      obtain ⟨rfl, rfl⟩ := e2
      have h3 : w'.ownsRow 0 97 3 (.slice (some ⟨g1, 0, none⟩) ((n + j) + d) c1) ((n + j) + d) ((List.replicate (n + j) m).flatMap Lev.cells ++ (List.replicate d m).flatMap Lev.cells) := by
        have := h2
        unfold Ls at this
        rw [List.length_replicate, show n + (j + d) = (n + j) + d from by omega, ← List.replicate_append_replicate, List.flatMap_append] at this
        exact this
      have := own_prefix h3 (by rw [flat_len Lev.len, List.length_replicate])
      unfold Ls
      rw [List.length_replicate]
      exact this
    · exact own_fr h1 hf (fun g hg e => by have := own_eq hg; have := hlt _ e; omega)
  · exact own_fr h1 hf (fun _ _ => id)

end Go.Proofs.YtigpgnjgmaoejaaGreat

/- The end of ownsLevels, as memory: the four lists are kept. Conditions: as in the hypotheses. -/
namespace Go.Proofs.YtigpgnjgmaoejaaGreat
open Go.RowKit

theorem own_finalL {w w3 w4 w6 : World} {bb : Nat} {ro : Nat → Nat} {E L : List (Value × Int)} {mk : Int} {ve vm vl vn l : Value} {n g1 c1 g2 c2 g3 c3 g4 n4 c4 g6 n6 c6 : Nat}
    (hb : BookAt w3 bb ro E L mk ve vm vl vn) (hbw : ∀ k, ro k < 6 → k < w.heap.size) (hro : ∀ k, OwnS l k → 6 ≤ ro k) (hlw : ∀ k, OwnS l k → k < w.heap.size) (hw3 : w.heap.size ≤ w3.heap.size)
    (hl : Ls w3 0 l (List.replicate n (markL mk)))
    (h1 : Ls w3 0 (.slice (some ⟨g1, 0, none⟩) (n + 1) c1) (List.replicate (n + 1) (markL mk))) (h2 : Ls w3 0 (.slice (some ⟨g2, 0, none⟩) (n + 2) c2) (List.replicate (n + 2) (markL mk)))
    (h3 : Ls w3 0 (.slice (some ⟨g3, 0, none⟩) (n + 3) c3) (List.replicate (n + 3) (markL mk)))
    (k1 : OwnS l g1 ∨ w.heap.size ≤ g1) (k2 : OwnS l g2 ∨ w.heap.size ≤ g2) (k3 : OwnS l g3 ∨ w.heap.size ≤ g3)
    (hn4 : Cs w4 0 98 (.slice (some ⟨g4, 0, none⟩) n4 c4) (List.map Prod.fst L ++ [l, .slice (some ⟨g1, 0, none⟩) (n + 1) c1, .slice (some ⟨g2, 0, none⟩) (n + 2) c2, .slice (some ⟨g3, 0, none⟩) (n + 3) c3]))
    (hf4 : Fr (OwnS vl) w3 w4) (k4 : OwnS vl g4 ∨ w3.heap.size ≤ g4)
    (hn6 : Cs w6 0 3 (.slice (some ⟨g6, 0, none⟩) n6 c6) (List.map (fun x => .int .i64 x.2) L ++ [.int .i64 mk, .int .i64 mk, .int .i64 mk, .int .i64 mk]))
    (hf6 : Fr (OwnS vn) (w4.setCell ⟨bb, 2, none⟩ (.slice (some ⟨g4, 0, none⟩) n4 c4)) w6) (k6 : OwnS vn g6 ∨ w4.heap.size ≤ g6)
    (hbk : w6.heap[bb]? = some (.cells #[ve, vm, .slice (some ⟨g4, 0, none⟩) n4 c4, vn, .slice none 0 0, .slice none 0 0, .int .i64 mk] 64 (0, 0))) :
    BookAt (w6.setCell ⟨bb, 3, none⟩ (.slice (some ⟨g6, 0, none⟩) n6 c6)) bb (roNew ro 3 4 g4 g6 l g1 g2 g3)
      E (L ++ [(l, mk), (.slice (some ⟨g1, 0, none⟩) (n + 1) c1, mk), (.slice (some ⟨g2, 0, none⟩) (n + 2) c2, mk), (.slice (some ⟨g3, 0, none⟩) (n + 3) c3, mk)]) mk
      ve vm (.slice (some ⟨g4, 0, none⟩) n4 c4) (.slice (some ⟨g6, 0, none⟩) n6 c6) ∧
    Fr (fun k => ro k < 6) w3 (w6.setCell ⟨bb, 3, none⟩ (.slice (some ⟨g6, 0, none⟩) n6 c6)) ∧
    ∀ k, roNew ro 3 4 g4 g6 l g1 g2 g3 k < 6 → ro k < 6 ∨ OwnS l k ∨ w.heap.size ≤ k := by
  have hbb : bb < w.heap.size := hbw bb (by rw [hb.r0]; omega)
  have hlt4 : g4 < w4.heap.size := (hn4.lt g4 rfl).2
  have hlt6 : g6 < w6.heap.size := (hn6.lt g6 rfl).2
  have hs4 := hf4.size
  have hs6 := hf6.size
  simp only [World.setCell, Array.size_modify] at hs6
  have hg4 : ro g4 = 3 ∧ g4 < w.heap.size ∨ w3.heap.size ≤ g4 := k4.imp (fun h => ⟨hb.r3 _ h, hbw _ (by rw [hb.r3 _ h]; omega)⟩) id
  have hg6 : ro g6 = 4 ∧ g6 < w.heap.size ∨ w4.heap.size ≤ g6 := k6.imp (fun h => ⟨hb.r4 _ h, hbw _ (by rw [hb.r4 _ h]; omega)⟩) id
  have h46 : g4 ≠ g6 := by rintro rfl; rcases hg4 with h | h <;> rcases hg6 with h' | h' <;> omega
  have e1 : ∀ g, (OwnS l g ∨ w.heap.size ≤ g) → g < w3.heap.size → g ≠ g4 ∧ g ≠ g6 ∧ 6 ≤ ro g := fun g hg hg3 => by
    rcases hg with h | h
    · have a := hro g h
      refine ⟨fun e => ?_, fun e => ?_, a⟩
      · subst e; rcases hg4 with h' | h' <;> omega
      · subst e; rcases hg6 with h' | h' <;> omega
    · refine ⟨fun e => ?_, fun e => ?_, ?_⟩
      · subst e; rcases hg4 with h' | h' <;> omega
      · subst e; rcases hg6 with h' | h' <;> omega
      · rcases Nat.lt_or_ge (ro g) 6 with h' | h'
        · have := hbw g h'; omega
        · exact h'
  have l1 := e1 g1 k1 (h1.lt g1 rfl).2
  have l2 := e1 g2 k2 (h2.lt g2 rfl).2
  have l3 := e1 g3 k3 (h3.lt g3 rfl).2
  have ll : ∀ k, OwnS l k → k ≠ g4 ∧ k ≠ g6 ∧ 6 ≤ ro k := fun k hk => e1 k (.inl hk) (by have := hlw k hk; omega)
  have old : ∀ k, ro k < 6 → ro k ≠ 3 → ro k ≠ 4 → roNew ro 3 4 g4 g6 l g1 g2 g3 k = ro k := fun k hk n1 n2 => by
    unfold roNew
    have := hbw k hk
    rw [if_neg (by rintro rfl; rcases hg4 with h' | h' <;> omega), if_neg (by rintro rfl; rcases hg6 with h' | h' <;> omega), if_neg]
    rintro (h | rfl | rfl | rfl)
    · have := hro k h; omega
    · have := l1.2.2; omega
    · have := l2.2.2; omega
    · have := l3.2.2; omega
  have five : ∀ k, (OwnS l k ∨ k = g1 ∨ k = g2 ∨ k = g3) → roNew ro 3 4 g4 g6 l g1 g2 g3 k = 5 := fun k hk => by
    have : k ≠ g4 ∧ k ≠ g6 := by
      rcases hk with h | rfl | rfl | rfl
      · exact ⟨(ll k h).1, (ll k h).2.1⟩
      · exact ⟨l1.1, l1.2.1⟩
      · exact ⟨l2.1, l2.2.1⟩
      · exact ⟨l3.1, l3.2.1⟩
    unfold roNew
    rw [if_neg this.1, if_neg this.2, if_pos (show l.ownBlock = some k ∨ k = g1 ∨ k = g2 ∨ k = g3 from hk)]
  have hF : Fr (fun k => ro k = 0 ∨ ro k = 3 ∨ ro k = 4) w3 (w6.setCell ⟨bb, 3, none⟩ (.slice (some ⟨g6, 0, none⟩) n6 c6)) := by
    have f1 : Fr (fun k => ro k = 0 ∨ ro k = 3 ∨ ro k = 4) w3 (w4.setCell ⟨bb, 2, none⟩ (.slice (some ⟨g4, 0, none⟩) n4 c4)) :=
      Fr.setAt (S := fun k => ro k = 0 ∨ ro k = 3 ∨ ro k = 4) (hf4.mono fun k _ hk => .inr (.inl (hb.r3 k hk))) bb (.inr (.inl hb.r0)) 2 _
    have f2 : Fr (fun k => ro k = 0 ∨ ro k = 3 ∨ ro k = 4) (w4.setCell ⟨bb, 2, none⟩ (.slice (some ⟨g4, 0, none⟩) n4 c4)) w6 := hf6.mono fun k _ hk => .inr (.inr (hb.r4 k hk))
    exact Fr.setAt (S := fun k => ro k = 0 ∨ ro k = 3 ∨ ro k = 4) (f1.same f2) bb (.inr (.inl hb.r0)) 3 _
  have big : ∀ k, (OwnS l k ∨ k = g1 ∨ k = g2 ∨ k = g3) → ¬ (ro k = 0 ∨ ro k = 3 ∨ ro k = 4) := fun k hk => by
    rcases hk with h | rfl | rfl | rfl
    · have := hro k h; omega
    · have := l1.2.2; omega
    · have := l2.2.2; omega
    · have := l3.2.2; omega
  have hs7 := hF.size
  refine ⟨{ blk := (heap_set hbk 3 _).trans rfl, oe := ?_, om := ?_, ol := ?_, on := ?_, ees := ?_, lls := ?_, r0 := ?_, r1 := ?_, r2 := ?_, r3 := ?_, r4 := ?_, r5 := ?_, rlt := ?_ }, hF.mono fun k _ hk => by omega, ?_⟩
  · exact own_fr hb.oe hF fun g hg => by have := hb.r1 g hg; omega
  · exact own_fr hb.om hF fun g hg => by have := hb.r2 g hg; omega
  · rw [List.map_append]
    refine own_fr (own_fr (own_fr (S := Is bb) hn4 ((Fr.refl _ _).setAt bb (.inr (Is.self bb)) 2 _) ?_) hf6 ?_) ((Fr.refl (Is bb) _).setAt bb (.inr (Is.self bb)) 3 _) ?_
    · intro g hg e; have := own_eq hg; have : g = bb := e; rcases hg4 with h' | h'
      · have := hb.r0; simp_all
      · omega
    · intro g hg e
      have e1 := own_eq hg
      subst e1
      have := hb.r4 _ e
      have := hbw g (by omega)
      rcases hg4 with h' | h' <;> omega
    · intro g hg e; have := own_eq hg; have : g = bb := e; rcases hg4 with h' | h'
      · have := hb.r0; simp_all
      · omega
  · rw [List.map_append]
    refine own_fr hn6 ((Fr.refl (Is bb) _).setAt bb (.inr (Is.self bb)) 3 _) ?_
    intro g hg e; have := own_eq hg; have : g = bb := e; rcases hg6 with h' | h'
    · have := hb.r0; simp_all
    · omega
  · intro x hx
    obtain ⟨m, hm⟩ := hb.ees x hx
    exact ⟨m, own_fr hm hF fun g hg => by have := hb.r5 x (List.mem_append_left _ hx) g hg; omega⟩
  · intro x hx
    rcases List.mem_append.1 hx with hx | hx
    · obtain ⟨m, hm⟩ := hb.lls x hx
      exact ⟨m, own_fr hm hF fun g hg => by have := hb.r5 x (List.mem_append_right _ hx) g hg; omega⟩
    · simp only [List.mem_cons, List.not_mem_nil, or_false] at hx
      rcases hx with rfl | rfl | rfl | rfl
      · exact ⟨n, own_fr hl hF fun g hg => big g (.inl hg)⟩
      · exact ⟨n + 1, own_fr h1 hF fun g hg => big g (.inr (.inl (own_eq hg)))⟩
      · exact ⟨n + 2, own_fr h2 hF fun g hg => big g (.inr (.inr (.inl (own_eq hg))))⟩
      · exact ⟨n + 3, own_fr h3 hF fun g hg => big g (.inr (.inr (.inr (own_eq hg))))⟩
  · rw [old bb (by rw [hb.r0]; omega) (by rw [hb.r0]; omega) (by rw [hb.r0]; omega), hb.r0]
  · intro k hk; have := hb.r1 k hk; rw [old k (by omega) (by omega) (by omega), this]
  · intro k hk; have := hb.r2 k hk; rw [old k (by omega) (by omega) (by omega), this]
  · intro k hk
    have := own_eq hk
    subst this
    simp [roNew]
  · intro k hk
    have := own_eq hk
    subst this
    unfold roNew
    rw [if_neg (Ne.symm h46), if_pos rfl]
  · intro x hx k hk
    rcases List.mem_append.1 hx with hx | hx
    · have := hb.r5 x (List.mem_append_left _ hx) k hk
      rw [old k (by omega) (by omega) (by omega), this]
    · rcases List.mem_append.1 hx with hx | hx
      · have := hb.r5 x (List.mem_append_right _ hx) k hk
        rw [old k (by omega) (by omega) (by omega), this]
      · simp only [List.mem_cons, List.not_mem_nil, or_false] at hx
        rcases hx with rfl | rfl | rfl | rfl
        · exact five k (.inl hk)
        · exact five k (.inr (.inl (own_eq hk)))
        · exact five k (.inr (.inr (.inl (own_eq hk))))
        · exact five k (.inr (.inr (.inr (own_eq hk))))
  · intro k hk
    have hsz7 : w6.heap.size ≤ (w6.setCell ⟨bb, 3, none⟩ (.slice (some ⟨g6, 0, none⟩) n6 c6)).heap.size := by simp [World.setCell]
    unfold roNew at hk
    split at hk
    · omega
    · split at hk
      · omega
      · split at hk
        · rename_i h
          rcases h with h | rfl | rfl | rfl
          · have := hlw k h; omega
          · have := (h1.lt k rfl).2; omega
          · have := (h2.lt k rfl).2; omega
          · have := (h3.lt k rfl).2; omega
        · have := hbw k hk; omega
  · intro k hk
    unfold roNew at hk
    split at hk
    · rename_i h; subst h; rcases hg4 with h' | h'
      · left; omega
      · right; right; omega
    · split at hk
      · rename_i h; subst h; rcases hg6 with h' | h'
        · left; omega
        · right; right; omega
      · split at hk
        · rename_i h
          rcases h with h | rfl | rfl | rfl
          · exact .inr (.inl h)
          · exact .inr k1
          · exact .inr k2
          · exact .inr k3
        · exact .inl hk
end Go.Proofs.YtigpgnjgmaoejaaGreat
