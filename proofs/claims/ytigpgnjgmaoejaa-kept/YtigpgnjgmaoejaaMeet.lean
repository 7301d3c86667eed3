/- Plain mathematics: orders that meet, by the document's search and by the sorted side; the prices of an opening. No condition. -/
import Derived.Test.YtigpgnjgmaoejaaRefQ
import Derived.Test.YtigpgnjgmaoejaaSides
namespace Go.Proofs.Ytigpgnjgmaoejaa

/-- What an order meets on the facing side, the best one first. -/
def meetS (x : Ord) : List Ord → Int → Int → List Ev → List Ord × Int × Int × List Ev
  | [], t, o, E => ([], t, o, E)
  | y :: R, t, o, E =>
    if goodB x.side y.price x.price = true ∧ 0 < o then
      if y.trader = x.trader then meetS x R t o (E ++ [goneO y])
      else if y.opn ≤ o then meetS x R (t + y.opn) (o - y.opn) (E ++ [tradedE x.id y.id y.price y.opn])
      else ({ y with opn := y.opn - o } :: R, t + o, 0, E ++ [tradedE x.id y.id y.price o])
    else (y :: R, t, o, E)

/-- What the document's search and the sorted side come to is the same. -/
structure Met (x : Ord) (L L' : List Ord) (S' : List Ord) : Prop where
  ids : (L'.map Ord.id).Sublist (L.map Ord.id)
  side : sideOf x.book (3 - x.side) L' = S'
  other : ∀ b s, (b, s) ≠ (x.book, 3 - x.side) → sideOf b s L' = sideOf b s L
  len : L'.length ≤ L.length

theorem side_other {L : List Ord} (hn : (L.map Ord.id).Nodup) {i : Nat} (hi : i < L.length) {b s b2 s2 : Int} (hs : inSide b s L[i] = true) (hne : (b2, s2) ≠ (b, s)) : L[i].id ∉ (sideOf b2 s2 L).map Ord.id := fun hm => by
  obtain ⟨y, hy, e⟩ := List.mem_map.1 hm
  obtain ⟨hy1, hy2⟩ := mem_sideOf.1 hy
  have := id_inj hn hy1 (List.getElem_mem hi) e
  rw [this] at hy2
  simp only [inSide, Bool.and_eq_true, beq_iff_eq] at hs hy2
  exact hne (by rw [← hs.1, ← hs.2, ← hy2.1, ← hy2.2])

theorem mWhile_meetS {x : Ord} : ∀ {f : Nat} {S L : List Ord} {t o : Int} {E : List Ev}, (L.map Ord.id).Nodup → (∀ y ∈ L, 0 < y.opn) → sideOf x.book (3 - x.side) L = S → S.length < f →
    (mWhile x f L t o E).2 = (meetS x S t o E).2 ∧ Met x L (mWhile x f L t o E).1 (meetS x S t o E).1
  | 0, _, _, _, _, _, _, _, _, hf => by omega
  | f + 1, [], L, t, o, E, _, _, hS, _ => by
    have hb : bestO L x.book (3 - x.side) = none := by
      cases hb : bestO L x.book (3 - x.side) with
      | none => rfl
      | some i => obtain ⟨hi, _, h2⟩ := side_best hb; rw [hS] at h2; cases h2
    rw [mWhile_stop (by simp [crossB, hb])]
    exact ⟨rfl, List.Sublist.refl _, hS, fun _ _ _ => rfl, Nat.le_refl _⟩
  | f + 1, y :: R, L, t, o, E, hn, hp, hS, hf => by
    cases hb : bestO L x.book (3 - x.side) with
    | none => rw [side_none hb] at hS; cases hS
    | some i =>
      obtain ⟨hi, h1, h2⟩ := side_best hb
      rw [hS] at h2
      obtain ⟨hy, hR⟩ := List.cons.inj h2
      have hc : crossB L x = goodB x.side y.price x.price := by simp [crossB, hb, priceAt_eq hi, hy]
      have hn1 : ((L.eraseIdx i).map Ord.id).Nodup := hn.sublist ((List.eraseIdx_sublist _ _).map Ord.id)
      have hp1 : ∀ z ∈ L.eraseIdx i, 0 < z.opn := fun z hz => hp z ((List.eraseIdx_sublist _ _).subset hz)
      have hoth : ∀ b s, (b, s) ≠ (x.book, 3 - x.side) → sideOf b s (L.eraseIdx i) = sideOf b s L := fun b s hne => by
        rw [erase_without hn hi, side_without, without_self (side_other hn hi h1 hne)]
      have hlen : (L.eraseIdx i).length ≤ L.length := List.length_eraseIdx_le _ _
      have back : ∀ {L' S' : List Ord}, Met x (L.eraseIdx i) L' S' → Met x L L' S' := fun h => ⟨h.ids.trans ((List.eraseIdx_sublist _ _).map Ord.id), h.side, fun b s hne => (h.other b s hne).trans (hoth b s hne), Nat.le_trans h.len hlen⟩
      have hyp := hp _ (List.getElem_mem hi)
      rw [← hy] at hyp
      by_cases hgo : goodB x.side y.price x.price = true ∧ 0 < o
      · have hcr : crossB L x = true := by rw [hc]; exact hgo.1
        simp only [meetS]
        rw [if_pos hgo]
        by_cases ht : y.trader = x.trader
        · rw [mWhile_own hcr hgo.2 hb hi (by rw [← hy]; exact ht), if_pos ht, ← hy]
          have ih := mWhile_meetS (x := x) (f := f) (t := t) (o := o) (E := E ++ [goneE y.id y.opn]) hn1 hp1 hR.symm (by simp at hf; omega)
          exact ⟨ih.1, back ih.2⟩
        · rw [mWhile_meet hcr hgo.2 hb hi (by rw [← hy]; exact ht), if_neg ht, ← hy]
          by_cases hle : y.opn ≤ o
          · have hl : leastI o y.opn = y.opn := by unfold leastI; split <;> omega
            rw [hl, if_pos rfl, if_pos hle]
            have ih := mWhile_meetS (x := x) (f := f) (t := t + y.opn) (o := o - y.opn) (E := E ++ [tradedE x.id y.id y.price y.opn]) hn1 hp1 hR.symm (by simp at hf; omega)
            exact ⟨ih.1, back ih.2⟩
          · have hl : leastI o y.opn = o := by unfold leastI; split <;> omega
            rw [hl, if_neg (by omega), if_neg hle, mWhile_stop (by omega)]
            refine ⟨by simp, ?_⟩
            have hset : L.set i { y with opn := y.opn - o } = L.map (reopen y.id (y.opn - o)) := by rw [hy]; exact set_reopen hn hi
            simp only
            rw [hset]
            refine ⟨?_, ?_, fun b s hne => ?_, by simp⟩
            · rw [List.map_map]
              have : (Ord.id ∘ reopen y.id (y.opn - o)) = Ord.id := by
                funext z; simp only [Function.comp, reopen]; split <;> rfl
              rw [this]
              exact List.Sublist.refl _
            · rw [side_reopen, hS, List.map_cons]
              congr 1
              · simp [reopen]
              · refine map_reopen_self ?_
                have hnd := sideOf_nodup (b := x.book) (s := 3 - x.side) hn
                rw [hS, List.map_cons] at hnd
                exact (List.nodup_cons.1 hnd).1
            · rw [side_reopen]
              refine map_reopen_self ?_
              rw [hy]
              exact side_other hn hi h1 hne
      · rw [mWhile_stop (by rw [hc]; exact hgo)]
        simp only [meetS]
        rw [if_neg hgo]
        exact ⟨rfl, List.Sublist.refl _, hS, fun _ _ _ => rfl, Nat.le_refl _⟩
/-- How much is open to buy, and to sell, at a price. -/
def buyAt (B : List Ord) (q : Int) : Int := ((B.filter fun o => decide (q ≤ o.price)).map Ord.opn).sum
def sellAt (S : List Ord) (q : Int) : Int := ((S.filter fun o => decide (o.price ≤ q)).map Ord.opn).sum
/-- The prices at which one of them changes. -/
def brks (B S : List Ord) : List Int := B.map (fun o => o.price + 1) ++ S.map Ord.price

theorem has_max : ∀ {C : List Int}, C ≠ [] → ∃ d ∈ C, ∀ c ∈ C, c ≤ d
  | [], h => absurd rfl h
  | [a], _ => ⟨a, by simp, fun c hc => by simp at hc; omega⟩
  | a :: b :: C, _ => by
    obtain ⟨d, hd, hm⟩ := has_max (C := b :: C) (by simp)
    by_cases h : a ≤ d
    · exact ⟨d, by simp only [List.mem_cons] at hd ⊢; exact .inr hd, fun c hc => by
        rcases List.mem_cons.1 hc with rfl | hc
        · exact h
        · exact hm c hc⟩
    · exact ⟨a, by simp, fun c hc => by
        rcases List.mem_cons.1 hc with rfl | hc
        · omega
        · have := hm c hc; omega⟩

/-- Between two of them all prices are alike. -/
theorem brk_down {B S : List Ord} {q : Int} (h : 0 < sellAt S q) : ∃ d ∈ brks B S, d ≤ q ∧ buyAt B d = buyAt B q ∧ sellAt S d = sellAt S q := by
  have hne : (brks B S).filter (fun c => decide (c ≤ q)) ≠ [] := by
    intro he
    have hno : S.filter (fun o => decide (o.price ≤ q)) = [] := by
      rw [List.filter_eq_nil_iff]
      intro o ho hp
      have : o.price ∈ (brks B S).filter (fun c => decide (c ≤ q)) := List.mem_filter.2 ⟨by unfold brks; exact List.mem_append_right _ (List.mem_map_of_mem ho), hp⟩
      rw [he] at this
      cases this
    unfold sellAt at h
    rw [hno] at h
    simp at h
  obtain ⟨d, hd, hm⟩ := has_max hne
  obtain ⟨hd1, hd2⟩ := List.mem_filter.1 hd
  have hdq : d ≤ q := by simpa using hd2
  refine ⟨d, hd1, hdq, ?_, ?_⟩
  · unfold buyAt
    congr 2
    refine List.filter_congr fun o ho => ?_
    rw [Bool.eq_iff_iff]
    simp only [decide_eq_true_eq]
    refine ⟨fun h1 => ?_, fun h1 => by omega⟩
    apply Int.not_lt.1
    intro h2
    have := hm (o.price + 1) (List.mem_filter.2 ⟨by unfold brks; exact List.mem_append_left _ (List.mem_map_of_mem (f := fun o : Ord => o.price + 1) ho), by simp; omega⟩)
    omega
  · unfold sellAt
    congr 2
    refine List.filter_congr fun o ho => ?_
    rw [Bool.eq_iff_iff]
    simp only [decide_eq_true_eq]
    refine ⟨fun h1 => by omega, fun h1 => ?_⟩
    exact hm o.price (List.mem_filter.2 ⟨by unfold brks; exact List.mem_append_right _ (List.mem_map_of_mem ho), by simpa using h1⟩)
end Go.Proofs.Ytigpgnjgmaoejaa
