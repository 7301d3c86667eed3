/- Plain mathematics for Fair: what an order that comes trades is at prices as good as its own, the best first; Whole trades whole. Conditions: as said in each. -/
import Derived.Test.YtigpgnjgmaoejaaGreatMarts
namespace Go.Proofs.YtigpgnjgmaoejaaGreat

/-- What Fair asks of the events that an order leads to, from a price on. -/
structure FairA where
  kind : Int
  side : Int
  price : Int
  id : Int
  there : Int → Bool
def goodP (a : FairA) (q : Int) : Bool := (a.kind == 2) || (a.side == 1 && decide (q ≤ a.price)) || (a.side == 2 && decide (a.price ≤ q))
def orderP (a : FairA) (pr q : Int) : Bool := (pr == 0) || (a.side == 1 && decide (pr ≤ q)) || (a.side == 2 && decide (q ≤ pr))
def FairL (a : FairA) : Int → List Ev → Prop
  | _, [] => True
  | pr, x :: E => if x.what = 3 then goodP a x.price = true ∧ orderP a pr x.price = true ∧ a.there x.price = true ∧ x.id = a.id ∧ 1 ≤ x.count ∧ FairL a x.price E else FairL a pr E
def sumT : List Ev → Int
  | [] => 0
  | x :: E => (if x.what = 3 then x.count else 0) + sumT E
theorem sumT_append : ∀ (A B : List Ev), sumT (A ++ B) = sumT A + sumT B
  | [], B => by simp [sumT]
  | x :: A, B => by simp only [List.cons_append, sumT, sumT_append A B]; omega
theorem sumT_take {E : List Ev} {k : Nat} (hk : k < E.length) : sumT (E.take (k + 1)) = sumT (E.take k) + (if E[k].what = 3 then E[k].count else 0) := by
  rw [List.take_succ_eq_append_getElem hk, sumT_append]
  simp [sumT]
/-- The last price that was traded at. -/
def lastP : Int → List Ev → Int
  | pr, [] => pr
  | pr, x :: E => lastP (if x.what = 3 then x.price else pr) E
theorem FairL_append {a : FairA} : ∀ {A B : List Ev} {pr : Int}, FairL a pr A → FairL a (lastP pr A) B → FairL a pr (A ++ B)
  | [], B, pr, _, h => h
  | x :: A, B, pr, h, hb => by
    rw [List.cons_append]
    unfold FairL at h ⊢
    unfold lastP at hb
    by_cases hx : x.what = 3
    · rw [if_pos hx] at h hb ⊢
      exact ⟨h.1, h.2.1, h.2.2.1, h.2.2.2.1, h.2.2.2.2.1, FairL_append h.2.2.2.2.2 hb⟩
    · rw [if_neg hx] at h hb ⊢
      exact FairL_append h hb
theorem FairL_none {a : FairA} : ∀ {E : List Ev} {pr : Int}, (∀ x ∈ E, x.what ≠ 3) → FairL a pr E
  | [], _, _ => trivial
  | x :: E, pr, h => by
    unfold FairL
    rw [if_neg (h x List.mem_cons_self)]
    exact FairL_none fun y hy => h y (List.mem_cons_of_mem _ hy)
theorem sumT_none : ∀ {E : List Ev}, (∀ x ∈ E, x.what ≠ 3) → sumT E = 0
  | [], _ => rfl
  | x :: E, h => by
    unfold sumT
    rw [if_neg (h x List.mem_cons_self), sumT_none fun y hy => h y (List.mem_cons_of_mem _ hy)]
    rfl

theorem rch_good {a : FairA} {q : Int} (hs : a.side = 1 ∨ a.side = 2) (h : rch a.kind a.side a.price q = true) : goodP a q = true := by
  unfold rch at h
  unfold goodP
  simp only [Bool.or_eq_true, Bool.and_eq_true, beq_iff_eq, decide_eq_true_eq, Bool.not_eq_true'] at h ⊢
  rcases h with h | h
  · exact .inl (.inl h)
  · rcases hs with e | e
    · refine .inl (.inr ⟨e, ?_⟩)
      rw [e] at h
      simp [beatsB] at h
      exact h
    · refine .inr ⟨e, ?_⟩
      rw [e] at h
      simp [beatsB] at h
      exact h
/-- What is met is fair: from a price on that none on the side beats. -/
theorem meetP_fair {a : FairA} {x : Ord} (hs : a.side = 1 ∨ a.side = 2) (hid : x.id = a.id) : ∀ {L : List Ord} {t o pr : Int} {E : List Ev}, Srt (3 - a.side) L → (∀ y ∈ L, 1 ≤ y.opn) → (∀ y ∈ L, a.there y.price = true) → (pr = 0 ∨ ∀ y ∈ L, beatsB (3 - a.side) y.price pr = false) → 0 ≤ o →
    ∃ N, (meetP (rch a.kind a.side a.price) x L t o E).2.2.2 = E ++ N ∧ FairL a pr N ∧ (meetP (rch a.kind a.side a.price) x L t o E).2.1 = t + sumT N
  | [], t, o, pr, E, _, _, _, _, _ => ⟨[], by simp [meetP], trivial, by simp [meetP, sumT]⟩
  | y :: R, t, o, pr, E, hL, hop, hth, hpr, ho => by
    obtain ⟨h1, h2⟩ := List.pairwise_cons.1 hL
    have hop2 : ∀ z ∈ R, 1 ≤ z.opn := fun z hz => hop z (List.mem_cons_of_mem _ hz)
    have hth2 : ∀ z ∈ R, a.there z.price = true := fun z hz => hth z (List.mem_cons_of_mem _ hz)
    have hy := hop y List.mem_cons_self
    simp only [meetP]
    by_cases hgo : rch a.kind a.side a.price y.price = true ∧ 0 < o
    · have hgood := rch_good hs hgo.1
      have hord : orderP a pr y.price = true := by
        unfold orderP
        simp only [Bool.or_eq_true, Bool.and_eq_true, beq_iff_eq, decide_eq_true_eq]
        rcases hpr with h | h
        · exact .inl (.inl h)
        · have := h y List.mem_cons_self
          rcases hs with e | e
          · rw [e] at this; simp [beatsB] at this; exact .inl (.inr ⟨e, this⟩)
          · rw [e] at this; simp [beatsB] at this; exact .inr ⟨e, this⟩
      have hty := hth y List.mem_cons_self
      rw [if_pos hgo]
      by_cases ht : y.trader = x.trader
      · rw [if_pos ht]
        obtain ⟨N, e1, e2, e3⟩ := meetP_fair (a := a) (x := x) hs hid (t := t) (o := o) (pr := pr) (E := E ++ [goneO y]) h2 hop2 hth2 (hpr.imp id fun h z hz => h z (List.mem_cons_of_mem _ hz)) ho
        refine ⟨goneO y :: N, by rw [e1]; simp, ?_, ?_⟩
        · unfold FairL
          rw [if_neg (by simp [goneO, goneE])]
          exact e2
        · rw [e3]
          simp [sumT, goneO, goneE]
      · rw [if_neg ht]
        by_cases hle : y.opn ≤ o
        · rw [if_pos hle]
          obtain ⟨N, e1, e2, e3⟩ := meetP_fair (a := a) (x := x) hs hid (t := t + y.opn) (o := o - y.opn) (pr := y.price) (E := E ++ [tradedE x.id y.id y.price y.opn]) h2 hop2 hth2 (.inr h1) (by omega)
          refine ⟨tradedE x.id y.id y.price y.opn :: N, by rw [e1]; simp, ?_, ?_⟩
          · unfold FairL
            rw [if_pos (show (tradedE x.id y.id y.price y.opn).what = 3 from rfl)]
            exact ⟨hgood, hord, hty, hid, hy, e2⟩
          · rw [e3]
            simp [sumT, tradedE]
            omega
        · rw [if_neg hle]
          refine ⟨[tradedE x.id y.id y.price o], rfl, ?_, ?_⟩
          · unfold FairL
            rw [if_pos (show (tradedE x.id y.id y.price o).what = 3 from rfl)]
            exact ⟨hgood, hord, hty, hid, by show 1 ≤ o; omega, trivial⟩
          · simp [sumT, tradedE]
    · rw [if_neg hgo]
      exact ⟨[], by simp, trivial, by simp [sumT]⟩
theorem meetP_evs0 {rc : Int → Bool} {x : Ord} : ∀ {L : List Ord} {t o : Int} {E : List Ev}, (meetP rc x L t o E).2.2.2.length ≤ E.length + L.length
  | [], t, o, E => by simp [meetP]
  | y :: R, t, o, E => by
    have h1 := fun t o E => meetP_evs0 (rc := rc) (x := x) (L := R) (t := t) (o := o) (E := E)
    simp only [meetP]
    split
    · split
      · have := h1 t o (E ++ [goneO y]); simp at this ⊢; omega
      · split
        · have := h1 (t + y.opn) (o - y.opn) (E ++ [tradedE x.id y.id y.price y.opn]); simp at this ⊢; omega
        · simp
    · simp
/-- Where enough is to be had, nothing is left open. -/
theorem meetP_whole {x : Ord} {sd : Int} : ∀ {L : List Ord} {t o : Int} {E : List Ev}, Srt sd L → (∀ y ∈ L, 1 ≤ y.opn) → 0 ≤ o → o ≤ openAtO sd x.price x.trader L → (meetP (fun q => !beatsB sd x.price q) x L t o E).2.2.1 = 0
  | [], t, o, E, _, _, ho, h => by simp [openAtO] at h; simp [meetP]; omega
  | y :: R, t, o, E, hL, hop, ho, h => by
    obtain ⟨h1, h2⟩ := List.pairwise_cons.1 hL
    have hop2 : ∀ z ∈ R, 1 ≤ z.opn := fun z hz => hop z (List.mem_cons_of_mem _ hz)
    simp only [meetP]
    by_cases h0 : 0 < o
    · by_cases hb : beatsB sd x.price y.price = true
      · have := openAt_nil (sd := sd) (q := x.price) (own := x.trader) (L := y :: R) fun z hz => by
          rcases List.mem_cons.1 hz with rfl | hz
          · exact hb
          · exact bt_nb hb (h1 z hz)
        omega
      · have hb : beatsB sd x.price y.price = false := by simpa using hb
        rw [if_pos ⟨by rw [hb]; rfl, h0⟩]
        by_cases ht : y.trader = x.trader
        · rw [if_pos ht]
          refine meetP_whole h2 hop2 ho ?_
          unfold openAtO at h ⊢
          rw [List.filter_cons_of_neg (by simp [ht])] at h
          exact h
        · have e : openAtO sd x.price x.trader (y :: R) = y.opn + openAtO sd x.price x.trader R := by
            unfold openAtO
            rw [List.filter_cons_of_pos (by simp [hb, ht])]
            simp
          rw [if_neg ht]
          by_cases hle : y.opn ≤ o
          · rw [if_pos hle]
            exact meetP_whole h2 hop2 (by omega) (by omega)
          · rw [if_neg hle]
    · rw [if_neg (fun q => h0 q.2)]
      simp only
      omega

/-- Prices of a side are among its levels. -/
def thereIn (B : List Lev) (q : Int) : Bool := B.any fun l => l.price == q
theorem addLev_there {l : List Lev} {x : Ord} : thereIn (addLev l x) x.price = true ∧ ∀ q, thereIn l q = true → thereIn (addLev l x) q = true := by
  rcases List.eq_nil_or_concat l with rfl | ⟨l0, z, rfl⟩
  · exact ⟨by simp [thereIn, addLev], fun q h => by simp [thereIn] at h⟩
  · rw [List.concat_eq_append]
    unfold addLev
    simp only [List.getLast?_append, List.getLast?_singleton, Option.some_or]
    by_cases h : z.price = x.price
    · simp only [h, if_true, List.dropLast_concat]
      refine ⟨by simp [thereIn], fun q hq => ?_⟩
      simp only [thereIn, List.any_append, List.any_cons, List.any_nil, Bool.or_false] at hq ⊢
      rw [h] at hq
      exact hq
    · simp only [h, if_false]
      refine ⟨by simp [thereIn], fun q hq => ?_⟩
      simp only [thereIn, List.any_append, List.any_cons, List.any_nil, Bool.or_false] at hq ⊢
      rw [hq]
      rfl
theorem fold_there : ∀ {L : List Ord} {l : List Lev}, (∀ x ∈ L, thereIn (L.foldl addLev l) x.price = true) ∧ ∀ q, thereIn l q = true → thereIn (L.foldl addLev l) q = true
  | [], l => ⟨by simp, fun q h => h⟩
  | x :: L, l => by
    obtain ⟨h1, h2⟩ := fold_there (L := L) (l := addLev l x)
    obtain ⟨h3, h4⟩ := addLev_there (l := l) (x := x)
    refine ⟨fun y hy => ?_, fun q hq => h2 q (h4 q hq)⟩
    rcases List.mem_cons.1 hy with rfl | hy
    · exact h2 _ h3
    · exact h1 y hy
end Go.Proofs.YtigpgnjgmaoejaaGreat
