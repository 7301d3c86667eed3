/- Plain mathematics for Fair: what an order that comes trades is at prices as good as its own, the best first; Whole trades whole. Conditions: as said in each. -/
import Derived.Test.YtigpgnjgmaoejaaOpMN
import Derived.Test.YtigpgnjgmaoejaaTrAB
namespace Go.Proofs.Ytigpgnjgmaoejaa

/-- What Fair asks of the events that an order leads to, from a price on. -/
structure FairA where
  kind : Int
  side : Int
  price : Int
  id : Int
  there : Int → Bool
def goodP (a : FairA) (q : Int) : Bool := (a.kind == 2) || (a.side == 1 && decide (q ≤ a.price)) || (a.side == 2 && decide (a.price ≤ q))
def orderP (a : FairA) (pr q : Int) : Bool := (pr == 0) || (a.side == 1 && decide (pr ≤ q)) || (a.side == 2 && decide (q ≤ pr))
def FairL (a : FairA) : Int → List Ev → Prop
  | _, [] => True
  | pr, x :: E => if x.what = 3 then goodP a x.price = true ∧ orderP a pr x.price = true ∧ a.there x.price = true ∧ x.id = a.id ∧ 1 ≤ x.count ∧ FairL a x.price E else FairL a pr E
def sumT : List Ev → Int
  | [] => 0
  | x :: E => (if x.what = 3 then x.count else 0) + sumT E
theorem sumT_append : ∀ (A B : List Ev), sumT (A ++ B) = sumT A + sumT B
  | [], B => by simp [sumT]
  | x :: A, B => by simp only [List.cons_append, sumT, sumT_append A B]; omega
theorem sumT_take {E : List Ev} {k : Nat} (hk : k < E.length) : sumT (E.take (k + 1)) = sumT (E.take k) + (if E[k].what = 3 then E[k].count else 0) := by
  rw [List.take_succ_eq_append_getElem hk, sumT_append]
  simp [sumT]
/-- The last price that was traded at. -/
def lastP : Int → List Ev → Int
  | pr, [] => pr
  | pr, x :: E => lastP (if x.what = 3 then x.price else pr) E
theorem FairL_append {a : FairA} : ∀ {A B : List Ev} {pr : Int}, FairL a pr A → FairL a (lastP pr A) B → FairL a pr (A ++ B)
  | [], B, pr, _, h => h
  | x :: A, B, pr, h, hb => by
    rw [List.cons_append]
    unfold FairL at h ⊢
    unfold lastP at hb
    by_cases hx : x.what = 3
    · rw [if_pos hx] at h hb ⊢
      exact ⟨h.1, h.2.1, h.2.2.1, h.2.2.2.1, h.2.2.2.2.1, FairL_append h.2.2.2.2.2 hb⟩
    · rw [if_neg hx] at h hb ⊢
      exact FairL_append h hb
theorem FairL_none {a : FairA} : ∀ {E : List Ev} {pr : Int}, (∀ x ∈ E, x.what ≠ 3) → FairL a pr E
  | [], _, _ => trivial
  | x :: E, pr, h => by
    unfold FairL
    rw [if_neg (h x List.mem_cons_self)]
    exact FairL_none fun y hy => h y (List.mem_cons_of_mem _ hy)
theorem sumT_none : ∀ {E : List Ev}, (∀ x ∈ E, x.what ≠ 3) → sumT E = 0
  | [], _ => rfl
  | x :: E, h => by
    unfold sumT
    rw [if_neg (h x List.mem_cons_self), sumT_none fun y hy => h y (List.mem_cons_of_mem _ hy)]
    rfl

theorem rch_good {a : FairA} {q : Int} (hs : a.side = 1 ∨ a.side = 2) (h : rch a.kind a.side a.price q = true) : goodP a q = true := by
  unfold rch at h
  unfold goodP
  simp only [Bool.or_eq_true, Bool.and_eq_true, beq_iff_eq, decide_eq_true_eq, Bool.not_eq_true'] at h ⊢
  rcases h with h | h
  · exact .inl (.inl h)
  · rcases hs with e | e
    · refine .inl (.inr ⟨e, ?_⟩)
      rw [e] at h
      simp [beatsB] at h
      exact h
    · refine .inr ⟨e, ?_⟩
      rw [e] at h
      simp [beatsB] at h
      exact h
/-- What is met is fair: from a price on that none on the side beats. -/
theorem meetP_fair {a : FairA} {x : Ord} (hs : a.side = 1 ∨ a.side = 2) (hid : x.id = a.id) : ∀ {L : List Ord} {t o pr : Int} {E : List Ev}, Srt (3 - a.side) L → (∀ y ∈ L, 1 ≤ y.opn) → (∀ y ∈ L, a.there y.price = true) → (pr = 0 ∨ ∀ y ∈ L, beatsB (3 - a.side) y.price pr = false) → 0 ≤ o →
    ∃ N, (meetP (rch a.kind a.side a.price) x L t o E).2.2.2 = E ++ N ∧ FairL a pr N ∧ (meetP (rch a.kind a.side a.price) x L t o E).2.1 = t + sumT N
  | [], t, o, pr, E, _, _, _, _, _ => ⟨[], by simp [meetP], trivial, by simp [meetP, sumT]⟩
  | y :: R, t, o, pr, E, hL, hop, hth, hpr, ho => by
    obtain ⟨h1, h2⟩ := List.pairwise_cons.1 hL
    have hop2 : ∀ z ∈ R, 1 ≤ z.opn := fun z hz => hop z (List.mem_cons_of_mem _ hz)
    have hth2 : ∀ z ∈ R, a.there z.price = true := fun z hz => hth z (List.mem_cons_of_mem _ hz)
    have hy := hop y List.mem_cons_self
    simp only [meetP]
    by_cases hgo : rch a.kind a.side a.price y.price = true ∧ 0 < o
    · have hgood := rch_good hs hgo.1
      have hord : orderP a pr y.price = true := by
        unfold orderP
        simp only [Bool.or_eq_true, Bool.and_eq_true, beq_iff_eq, decide_eq_true_eq]
        rcases hpr with h | h
        · exact .inl (.inl h)
        · have := h y List.mem_cons_self
          rcases hs with e | e
          · rw [e] at this; simp [beatsB] at this; exact .inl (.inr ⟨e, this⟩)
          · rw [e] at this; simp [beatsB] at this; exact .inr ⟨e, this⟩
      have hty := hth y List.mem_cons_self
      rw [if_pos hgo]
      by_cases ht : y.trader = x.trader
      · rw [if_pos ht]
        obtain ⟨N, e1, e2, e3⟩ := meetP_fair (a := a) (x := x) hs hid (t := t) (o := o) (pr := pr) (E := E ++ [goneO y]) h2 hop2 hth2 (hpr.imp id fun h z hz => h z (List.mem_cons_of_mem _ hz)) ho
        refine ⟨goneO y :: N, by rw [e1]; simp, ?_, ?_⟩
        · unfold FairL
          rw [if_neg (by simp [goneO, goneE])]
          exact e2
        · rw [e3]
          simp [sumT, goneO, goneE]
      · rw [if_neg ht]
        by_cases hle : y.opn ≤ o
        · rw [if_pos hle]
          obtain ⟨N, e1, e2, e3⟩ := meetP_fair (a := a) (x := x) hs hid (t := t + y.opn) (o := o - y.opn) (pr := y.price) (E := E ++ [tradedE x.id y.id y.price y.opn]) h2 hop2 hth2 (.inr h1) (by omega)
          refine ⟨tradedE x.id y.id y.price y.opn :: N, by rw [e1]; simp, ?_, ?_⟩
          · unfold FairL
            rw [if_pos (show (tradedE x.id y.id y.price y.opn).what = 3 from rfl)]
            exact ⟨hgood, hord, hty, hid, hy, e2⟩
          · rw [e3]
            simp [sumT, tradedE]
            omega
        · rw [if_neg hle]
          refine ⟨[tradedE x.id y.id y.price o], rfl, ?_, ?_⟩
          · unfold FairL
            rw [if_pos (show (tradedE x.id y.id y.price o).what = 3 from rfl)]
            exact ⟨hgood, hord, hty, hid, by show 1 ≤ o; omega, trivial⟩
          · simp [sumT, tradedE]
    · rw [if_neg hgo]
      exact ⟨[], by simp, trivial, by simp [sumT]⟩
theorem meetP_evs0 {rc : Int → Bool} {x : Ord} : ∀ {L : List Ord} {t o : Int} {E : List Ev}, (meetP rc x L t o E).2.2.2.length ≤ E.length + L.length
  | [], t, o, E => by simp [meetP]
  | y :: R, t, o, E => by
    have h1 := fun t o E => meetP_evs0 (rc := rc) (x := x) (L := R) (t := t) (o := o) (E := E)
    simp only [meetP]
    split
    · split
      · have := h1 t o (E ++ [goneO y]); simp at this ⊢; omega
      · split
        · have := h1 (t + y.opn) (o - y.opn) (E ++ [tradedE x.id y.id y.price y.opn]); simp at this ⊢; omega
        · simp
    · simp
/-- Where enough is to be had, nothing is left open. -/
theorem meetP_whole {x : Ord} {sd : Int} : ∀ {L : List Ord} {t o : Int} {E : List Ev}, Srt sd L → (∀ y ∈ L, 1 ≤ y.opn) → 0 ≤ o → o ≤ openAtO sd x.price x.trader L → (meetP (fun q => !beatsB sd x.price q) x L t o E).2.2.1 = 0
  | [], t, o, E, _, _, ho, h => by simp [openAtO] at h; simp [meetP]; omega
  | y :: R, t, o, E, hL, hop, ho, h => by
    obtain ⟨h1, h2⟩ := List.pairwise_cons.1 hL
    have hop2 : ∀ z ∈ R, 1 ≤ z.opn := fun z hz => hop z (List.mem_cons_of_mem _ hz)
    simp only [meetP]
    by_cases h0 : 0 < o
    · by_cases hb : beatsB sd x.price y.price = true
      · have := openAt_nil (sd := sd) (q := x.price) (own := x.trader) (L := y :: R) fun z hz => by
          rcases List.mem_cons.1 hz with rfl | hz
          · exact hb
          · exact bt_nb hb (h1 z hz)
        omega
      · have hb : beatsB sd x.price y.price = false := by simpa using hb
        rw [if_pos ⟨by rw [hb]; rfl, h0⟩]
        by_cases ht : y.trader = x.trader
        · rw [if_pos ht]
          refine meetP_whole h2 hop2 ho ?_
          unfold openAtO at h ⊢
          rw [List.filter_cons_of_neg (by simp [ht])] at h
          exact h
        · have e : openAtO sd x.price x.trader (y :: R) = y.opn + openAtO sd x.price x.trader R := by
            unfold openAtO
            rw [List.filter_cons_of_pos (by simp [hb, ht])]
            simp
          rw [if_neg ht]
          by_cases hle : y.opn ≤ o
          · rw [if_pos hle]
            exact meetP_whole h2 hop2 (by omega) (by omega)
          · rw [if_neg hle]
    · rw [if_neg (fun q => h0 q.2)]
      simp only
      omega

/-- Prices of a side are among its levels. -/
def thereIn (B : List Lev) (q : Int) : Bool := B.any fun l => l.price == q
theorem addLev_there {l : List Lev} {x : Ord} : thereIn (addLev l x) x.price = true ∧ ∀ q, thereIn l q = true → thereIn (addLev l x) q = true := by
  rcases List.eq_nil_or_concat l with rfl | ⟨l0, z, rfl⟩
  · exact ⟨by simp [thereIn, addLev], fun q h => by simp [thereIn] at h⟩
  · rw [List.concat_eq_append]
    unfold addLev
    simp only [List.getLast?_append, List.getLast?_singleton, Option.some_or]
    by_cases h : z.price = x.price
    · simp only [h, if_true, List.dropLast_concat]
      refine ⟨by simp [thereIn], fun q hq => ?_⟩
      simp only [thereIn, List.any_append, List.any_cons, List.any_nil, Bool.or_false] at hq ⊢
      rw [h] at hq
      exact hq
    · simp only [h, if_false]
      refine ⟨by simp [thereIn], fun q hq => ?_⟩
      simp only [thereIn, List.any_append, List.any_cons, List.any_nil, Bool.or_false] at hq ⊢
      rw [hq]
      rfl
theorem fold_there : ∀ {L : List Ord} {l : List Lev}, (∀ x ∈ L, thereIn (L.foldl addLev l) x.price = true) ∧ ∀ q, thereIn l q = true → thereIn (L.foldl addLev l) q = true
  | [], l => ⟨by simp, fun q h => h⟩
  | x :: L, l => by
    obtain ⟨h1, h2⟩ := fold_there (L := L) (l := addLev l x)
    obtain ⟨h3, h4⟩ := addLev_there (l := l) (x := x)
    refine ⟨fun y hy => ?_, fun q hq => h2 q (h4 q hq)⟩
    rcases List.mem_cons.1 hy with rfl | hy
    · exact h2 _ h3
    · exact h1 y hy
end Go.Proofs.Ytigpgnjgmaoejaa

/- Plain mathematics for Fair: numbers of what rests stay low; what a New in a book that trades leads to is fair. Conditions: as said in each. -/
namespace Go.Proofs.Ytigpgnjgmaoejaa

/-- All numbers of what rests are low. -/
def IdsLe (s : St) (n : Int) : Prop := ∀ k, k < 8 → ∀ j, j < 2 → ∀ o ∈ s.M k j, o.id ≤ n
theorem SubL.idLe {L L' : List Ord} (h : SubL L L') {n : Int} (hl : ∀ o ∈ L, o.id ≤ n) : ∀ o ∈ L', o.id ≤ n := fun o ho => by
  obtain ⟨z, hz, e⟩ := h.mem ho
  simp only [key, Prod.mk.injEq] at e
  rw [e.1]
  exact hl z hz
theorem enterB_ids {k : Nat} {tr : Bool} {M : Nat → List Ord} {x : Ord} {kind n : Int} (h : BkOk k M) (hx : 0 ≤ x.opn) (hM : ∀ j, j < 2 → ∀ o ∈ M j, o.id ≤ n) (hi : x.id ≤ n) : ∀ j, j < 2 → ∀ o ∈ (enterB tr M x kind).1 j, o.id ≤ n := by
  have hop : ∀ j, j < 2 → ∀ y ∈ M j, 1 ≤ y.opn ∧ y.opn ≤ 1000000 := fun j hj => h.opns hj
  have hsub := (meetB_spec (tr := tr) (kind := kind) (hop _ (fj_lt x.side)) hx).1
  have hsu := sub_upd hop hsub
  have h1 : BkOk k (upd M (fj x.side) (meetB tr M x kind).1) := h.sub hsu
  have h2 : ∀ j, j < 2 → ∀ o ∈ upd M (fj x.side) (meetB tr M x kind).1 j, o.id ≤ n := fun j hj => (hsu j hj).idLe (hM j hj)
  unfold enterB
  simp only
  split
  · exact h2
  · split
    · intro j hj o ho
      simp only [putM] at ho
      split at ho
      · rename_i e
        have hsr := h1.srt j hj
        rw [e] at hsr
        rw [(putO_perm hsr).mem_iff, List.mem_cons] at ho
        rcases ho with rfl | ho
        · exact hi
        · exact h2 j hj o ho
      · exact h2 j hj o ho
    · exact h2
theorem enter_ids {s : St} {n : Int} (hw : WF s) (h : IdsLe s n) {k : Nat} {x : Ord} {kind : Int} (hx : 0 ≤ x.opn) (hi : x.id ≤ n) : IdsLe (s.enter k x kind).1 n := by
  intro i hi8 j hj o ho
  simp only [St.enter] at ho
  by_cases e : i = k
  · subst e
    rw [upd_self] at ho
    exact enterB_ids (hw.book i hi8) hx (h i hi8) hi j hj o ho
  · rw [upd_other e] at ho
    exact h i hi8 j hj o ho
theorem rem_ids {s : St} {n : Int} (h : IdsLe s n) (k : Nat) (id : Int) : IdsLe (s.rem k id) n := by
  intro i hi8 j hj o ho
  simp only [St.rem] at ho
  by_cases e : i = k
  · subst e
    rw [upd_self] at ho
    exact h i hi8 j hj o (List.mem_filter.1 ho).1
  · rw [upd_other e] at ho
    exact h i hi8 j hj o ho
theorem reop_ids {s : St} {n : Int} (h : IdsLe s n) (k : Nat) (id c : Int) : IdsLe (s.reop k id c) n := by
  intro i hi8 j hj o ho
  simp only [St.reop] at ho
  by_cases e : i = k
  · subst e
    rw [upd_self] at ho
    obtain ⟨z, hz, rfl⟩ := List.mem_map.1 ho
    have hid : (reopen id c z).id = z.id := by unfold reopen; split <;> rfl
    rw [hid]
    exact h i hi8 j hj z hz
  · rw [upd_other e] at ho
    exact h i hi8 j hj o ho
theorem sDo_ids {s : St} {n : Int} (hw : WF s) (h : IdsLe s n) {c : Cmd} (hc : c.id ≤ n) (h56 : c.what ≠ 5 ∧ c.what ≠ 6) : IdsLe (sDo s c).1 n := by
  unfold sDo
  split
  · unfold sNew
    split
    · exact h
    · rename_i hok
      obtain ⟨o1, o2, o3, o4, o5, o6, o7⟩ := newOk_all (c := c) (by simpa using hok)
      split
      · exact h
      · split
        · exact h
        · exact enter_ids hw h (by show 0 ≤ c.count; omega) hc
  · split
    · unfold sCancel
      split
      · exact h
      · split
        · exact h
        · exact rem_ids h _ _
    · split
      · unfold sChange
        split
        · exact h
        · rename_i hok
          have hn := (chOk_all (c := c) (by simpa using hok)).2
          split
          · exact h
          · rename_i x hx
            obtain ⟨_, hid, h8, _, _, j, hj, hm⟩ := getOf_in hw hx
            split
            · exact reop_ids h _ _ _
            · exact enter_ids (rem_keeps hw _ _).wf (rem_ids h _ _) (by show 0 ≤ c.count; omega) (by show x.id ≤ n; omega)
      · split
        · unfold sCancelAll
          split
          · exact h
          · exact fun k hk j hj o ho => h k hk j hj o (List.mem_filter.1 ho).1
        · rw [if_neg h56.1, if_neg h56.2]
          exact h
theorem getAt_high {s : St} {n id : Int} (hw : WF s) (h : IdsLe s n) (hi : n < id) : getAt s id = none := by
  cases hg : getAt s id with
  | none => rfl
  | some x =>
    obtain ⟨e, h8, _, _, j, hj, hm⟩ := getAt_in hw hg
    have := h _ h8 j hj x hm
    omega

/-- What a New in book 1, trading, leads to. -/
structure FairE (c : Cmd) (th : Int → Bool) (E : List Ev) : Prop where
  fair : FairL ⟨c.kind, c.side, c.price, c.id, th⟩ 0 E
  le : sumT E ≤ c.count
  whole : c.kind = 4 → E = [refusedE c.id 7] ∨ ∃ E', E = takenE c.id c.count :: E' ∧ sumT E = c.count
  len : E.length ≤ 300
theorem new_fair {s : St} (hw : WF s) (htr : s.tr 0 = true) {n : Int} (hid : IdsLe s n) {c : Cmd} (hwh : c.what = 1) (hci : n < c.id) (hok : newOk c = true) (hb : c.book = 1) :
    FairE c (thereIn ((s.M 0 (sj (3 - c.side))).foldl addLev [])) (sDo s c).2 := by
  obtain ⟨o1, o2, o3, o4, o5, o6, o7⟩ := newOk_all hok
  have hbk : bk c.book = 0 := by rw [hb]; rfl
  have hB := hw.book 0 (by omega)
  have hfj : fj c.side = sj (3 - c.side) := fj_sj o4
  have hsum0 : ∀ e : Int, sumT [refusedE c.id e] = 0 := fun e => by simp [sumT, refusedE]
  have hf0 : ∀ (a : FairA) (e : Int), FairL a 0 [refusedE c.id e] := fun a e => FairL_none (by intro x hx; simp at hx; subst hx; simp [refusedE])
  have hD : (sDo s c).2 = if barsB true (s.M 0) (ordOf c) c.kind ≠ 0 then [refusedE c.id (barsB true (s.M 0) (ordOf c) c.kind)] else (enterB true (s.M 0) (ordOf c) c.kind).2.2 := by
    unfold sDo sNew
    rw [if_pos hwh, if_neg (by rw [hok]; decide), if_neg (by rw [getAt_high hw hid hci]; decide), hbk, htr]
    split
    · rfl
    · simp only [St.enter, htr]
  rw [hD]
  by_cases hbar : barsB true (s.M 0) (ordOf c) c.kind ≠ 0
  · rw [if_pos hbar]
    refine ⟨hf0 _ _, by rw [hsum0]; omega, fun hk => .inl ?_, by simp⟩
    have : barsB true (s.M 0) (ordOf c) c.kind = 7 := by
      unfold barsB at hbar ⊢
      rw [if_neg (by simp)] at hbar ⊢
      split
      · rfl
      · rename_i hm
        rw [if_neg hm] at hbar
        have hw4 : waitsB c.kind = false := by rw [hk]; rfl
        rw [if_neg (by rw [hw4]; simp)] at hbar
        exact absurd rfl hbar
    rw [this]
  · rw [if_neg hbar]
    have hbar : barsB true (s.M 0) (ordOf c) c.kind = 0 := by simpa using hbar
    have hmb : meetB true (s.M 0) (ordOf c) c.kind = meetP (rch c.kind c.side c.price) (ordOf c) (s.M 0 (fj c.side)) 0 c.count [] := by simp [meetB, ordOf]
    have hsrt : Srt (3 - c.side) (s.M 0 (fj c.side)) := by rw [← fj_side o4]; exact hB.srt _ (fj_lt _)
    have hop : ∀ y ∈ s.M 0 (fj c.side), 1 ≤ y.opn := fun y hy => (hB.opns (fj_lt _) y hy).1
    have hth : ∀ y ∈ s.M 0 (fj c.side), thereIn ((s.M 0 (sj (3 - c.side))).foldl addLev []) y.price = true := by rw [hfj]; exact (fold_there (l := [])).1
    obtain ⟨N, e1, e2, e3⟩ := meetP_fair (a := ⟨c.kind, c.side, c.price, c.id, thereIn ((s.M 0 (sj (3 - c.side))).foldl addLev [])⟩) (x := ordOf c) o4 rfl (t := 0) (o := c.count) (pr := 0) (E := []) hsrt hop hth (.inl rfl) (by omega)
    simp only [List.nil_append, Int.zero_add] at e1 e3
    have hmet := meetB_spec (tr := true) (M := s.M 0) (x := ordOf c) (kind := c.kind) (hB.opns (fj_lt _)) (by show 0 ≤ c.count; omega)
    rw [hmb] at hmet
    have hlen : N.length ≤ 200 := by
      have := meetP_evs0 (rc := rch c.kind c.side c.price) (x := ordOf c) (L := s.M 0 (fj c.side)) (t := 0) (o := c.count) (E := [])
      rw [e1] at this
      have hc := hB.cap
      have hl : (s.M 0 (fj c.side)).length ≤ 200 := by
        have h2 := fj_lt c.side
        generalize fj c.side = q at *
        match q, h2 with
        | 0, _ => omega
        | 1, _ => omega
      simp at this
      omega
    obtain ⟨T, hT, hTs, hTn, hTl⟩ : ∃ T, (enterB true (s.M 0) (ordOf c) c.kind).2.2 = takenE c.id c.count :: (N ++ T) ∧ sumT T = 0 ∧ (∀ x ∈ T, x.what ≠ 3) ∧ T.length ≤ 1 := by
      unfold enterB
      simp only [hmb, e1]
      split
      · exact ⟨[], by simp [ordOf], rfl, by simp, by simp⟩
      · split
        · exact ⟨[restsE c.id c.price (meetP (rch c.kind c.side c.price) (ordOf c) (s.M 0 (fj c.side)) 0 c.count []).2.2.1], by simp [ordOf], rfl, by simp [restsE], by simp⟩
        · exact ⟨[goneE c.id (meetP (rch c.kind c.side c.price) (ordOf c) (s.M 0 (fj c.side)) 0 c.count []).2.2.1], by simp [ordOf], rfl, by simp [goneE], by simp⟩
    have hsum : sumT (takenE c.id c.count :: (N ++ T)) = sumT N := by
      show (if (takenE c.id c.count).what = 3 then _ else 0) + sumT (N ++ T) = _
      rw [if_neg (by simp [takenE]), sumT_append, hTs]
      omega
    have hs1 := hmet.2.1
    have hs2 := hmet.2.2.1
    rw [e3] at hs1
    have hcnt : (ordOf c).opn = c.count := rfl
    rw [hcnt] at hs1
    rw [hT]
    refine ⟨?_, by rw [hsum]; omega, fun hk => .inr ⟨_, rfl, ?_⟩, by simp; omega⟩
    · show if (takenE c.id c.count).what = 3 then _ else FairL _ 0 (N ++ T)
      rw [if_neg (by simp [takenE])]
      exact FairL_append e2 (FairL_none hTn)
    · rw [hsum]
      have hmm : mismB (s.M 0) (ordOf c) c.kind = false := by
        unfold barsB at hbar
        rw [if_neg (by simp)] at hbar
        cases hm : mismB (s.M 0) (ordOf c) c.kind with
        | false => rfl
        | true => rw [hm] at hbar; simp at hbar
      have hoa : c.count ≤ openAtO (3 - c.side) c.price c.trader (s.M 0 (fj c.side)) := by
        unfold mismB at hmm
        rw [if_neg (by omega), if_pos hk] at hmm
        have hmm : decide (openAtO (3 - c.side) c.price c.trader (s.M 0 (fj c.side)) < c.count) = false := hmm
        rw [decide_eq_false_iff_not] at hmm
        omega
      have hz := meetP_whole (x := ordOf c) (sd := 3 - c.side) (t := 0) (o := c.count) (E := []) hsrt hop (by omega) hoa
      have hrc : rch c.kind c.side c.price = fun q => !beatsB (3 - c.side) (ordOf c).price q := by
        funext q
        simp [rch, hk, ordOf]
      rw [hrc] at hs1
      omega
end Go.Proofs.Ytigpgnjgmaoejaa
