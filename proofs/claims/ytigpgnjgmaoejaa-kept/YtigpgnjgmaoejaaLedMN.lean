/- Plain mathematics for Kept: what orders were for is what was traded of them, is open, or is gone. Conditions: the book is as it should be. -/
import Derived.Test.YtigpgnjgmaoejaaOpP
import Derived.Test.YtigpgnjgmaoejaaFairMN
namespace Go.Proofs.Ytigpgnjgmaoejaa

/-- How much is open under a number. -/
def openL (id : Int) : List Ord → Int
  | [] => 0
  | x :: L => (if x.id = id then x.opn else 0) + openL id L
def openS (M : Nat → List Ord) (id : Int) : Int := openL id (M 0) + openL id (M 1)
/-- How much is out of an order, by one event. -/
def outV (id : Int) (x : Ev) : Int := if x.what = 3 then (if x.id = id then x.count else 0) + (if x.other = id then x.count else 0) else if x.what = 5 then (if x.id = id then x.count else 0) else 0
def outE (id : Int) : List Ev → Int
  | [] => 0
  | x :: E => outV id x + outE id E
def tknV (id : Int) (x : Ev) : Int := if x.what = 2 then (if x.id = id then x.count else 0) else 0
def tknE (id : Int) : List Ev → Int
  | [] => 0
  | x :: E => tknV id x + tknE id E
theorem openL_append (id : Int) : ∀ (A B : List Ord), openL id (A ++ B) = openL id A + openL id B
  | [], B => by simp [openL]
  | x :: A, B => by simp only [List.cons_append, openL, openL_append id A B]; omega
theorem outE_append (id : Int) : ∀ (A B : List Ev), outE id (A ++ B) = outE id A + outE id B
  | [], B => by simp [outE]
  | x :: A, B => by simp only [List.cons_append, outE, outE_append id A B]; omega
theorem tknE_append (id : Int) : ∀ (A B : List Ev), tknE id (A ++ B) = tknE id A + tknE id B
  | [], B => by simp [tknE]
  | x :: A, B => by simp only [List.cons_append, tknE, tknE_append id A B]; omega
theorem outE_take {id : Int} {E : List Ev} {k : Nat} (hk : k < E.length) : outE id (E.take (k + 1)) = outE id (E.take k) + outV id E[k] := by
  rw [List.take_succ_eq_append_getElem hk, outE_append]; simp [outE]
theorem tknE_take {id : Int} {E : List Ev} {k : Nat} (hk : k < E.length) : tknE id (E.take (k + 1)) = tknE id (E.take k) + tknV id E[k] := by
  rw [List.take_succ_eq_append_getElem hk, tknE_append]; simp [tknE]
theorem tknE_none {id : Int} : ∀ {E : List Ev}, (∀ x ∈ E, x.what ≠ 2) → tknE id E = 0
  | [], _ => rfl
  | x :: E, h => by
    unfold tknE tknV
    rw [if_neg (h x List.mem_cons_self), tknE_none fun y hy => h y (List.mem_cons_of_mem _ hy)]
    rfl
theorem openL_none {id : Int} : ∀ {L : List Ord}, (∀ y ∈ L, y.id ≠ id) → openL id L = 0
  | [], _ => rfl
  | x :: L, h => by
    unfold openL
    rw [if_neg (h x List.mem_cons_self), openL_none fun y hy => h y (List.mem_cons_of_mem _ hy)]
    rfl
theorem openL_nonneg {id : Int} : ∀ {L : List Ord}, (∀ y ∈ L, 0 ≤ y.opn) → 0 ≤ openL id L
  | [], _ => Int.le_refl _
  | x :: L, h => by
    have h1 := h x List.mem_cons_self
    have h2 := openL_nonneg (id := id) fun y hy => h y (List.mem_cons_of_mem _ hy)
    unfold openL
    split <;> omega
/-- An event speaks of orders that there are. -/
structure EvB (m : Int) (x : Ev) : Prop where
  id : 0 ≤ x.id ∧ x.id ≤ m
  other : 0 ≤ x.other ∧ x.other ≤ m
  count : 0 ≤ x.count
theorem goneO_b {m : Int} {y : Ord} (h : 0 ≤ y.id ∧ y.id ≤ m) (ho : 0 ≤ y.opn) : EvB m (goneO y) := ⟨h, ⟨Int.le_refl _, by show (0 : Int) ≤ m; omega⟩, ho⟩
theorem traded_b {m a b p n : Int} (ha : 0 ≤ a ∧ a ≤ m) (hb : 0 ≤ b ∧ b ≤ m) (hn : 0 ≤ n) : EvB m (tradedE a b p n) := ⟨ha, hb, hn⟩

theorem outV_traded (id a b p n : Int) : outV id (tradedE a b p n) = (if a = id then n else 0) + (if b = id then n else 0) := rfl
theorem outV_gone (id a n : Int) : outV id (goneE a n) = if a = id then n else 0 := rfl
theorem meetP_led {rc : Int → Bool} {x : Ord} {m : Int} (hx : 0 ≤ x.id ∧ x.id ≤ m) : ∀ {L : List Ord} {t o : Int} {E : List Ev}, (∀ y ∈ L, 1 ≤ y.opn ∧ 0 ≤ y.id ∧ y.id ≤ m) → 0 ≤ o →
    ∃ N, (meetP rc x L t o E).2.2.2 = E ++ N ∧ (∀ id, openL id (meetP rc x L t o E).1 + outE id N = openL id L + if x.id = id then o - (meetP rc x L t o E).2.2.1 else 0) ∧ sumT N = (meetP rc x L t o E).2.1 - t ∧ ∀ e ∈ N, e.what ≠ 2 ∧ EvB m e
  | [], t, o, E, _, _ => ⟨[], by simp [meetP], fun id => by simp [meetP, openL, outE], by simp [meetP, sumT], by simp⟩
  | y :: R, t, o, E, hL, ho => by
    have hy := hL y List.mem_cons_self
    have hR : ∀ z ∈ R, 1 ≤ z.opn ∧ 0 ≤ z.id ∧ z.id ≤ m := fun z hz => hL z (List.mem_cons_of_mem _ hz)
    simp only [meetP]
    by_cases hgo : rc y.price = true ∧ 0 < o
    · rw [if_pos hgo]
      by_cases ht : y.trader = x.trader
      · rw [if_pos ht]
        obtain ⟨N, e1, e2, e3, e4⟩ := meetP_led (rc := rc) (x := x) hx (t := t) (o := o) (E := E ++ [goneO y]) hR ho
        refine ⟨goneO y :: N, by rw [e1]; simp, fun id => ?_, ?_, fun e he => ?_⟩
        · have := e2 id
          show _ + (outV id (goneE y.id y.opn) + outE id N) = (if y.id = id then y.opn else 0) + openL id R + _
          rw [outV_gone]
          omega
        · rw [← e3]; simp [sumT, goneO, goneE]
        · rcases List.mem_cons.1 he with rfl | he
          · exact ⟨by simp [goneO, goneE], goneO_b hy.2 (by omega)⟩
          · exact e4 e he
      · rw [if_neg ht]
        by_cases hle : y.opn ≤ o
        · rw [if_pos hle]
          obtain ⟨N, e1, e2, e3, e4⟩ := meetP_led (rc := rc) (x := x) hx (t := t + y.opn) (o := o - y.opn) (E := E ++ [tradedE x.id y.id y.price y.opn]) hR (by omega)
          refine ⟨tradedE x.id y.id y.price y.opn :: N, by rw [e1]; simp, fun id => ?_, ?_, fun e he => ?_⟩
          · have := e2 id
            show _ + (outV id (tradedE x.id y.id y.price y.opn) + outE id N) = (if y.id = id then y.opn else 0) + openL id R + _
            rw [outV_traded]
            split at this <;> split <;> omega
          · show (if (tradedE x.id y.id y.price y.opn).what = 3 then y.opn else 0) + sumT N = _
            rw [if_pos (show (tradedE x.id y.id y.price y.opn).what = 3 from rfl), e3]
            omega
          · rcases List.mem_cons.1 he with rfl | he
            · exact ⟨by simp [tradedE], traded_b hx hy.2 (by omega)⟩
            · exact e4 e he
        · rw [if_neg hle]
          refine ⟨[tradedE x.id y.id y.price o], rfl, fun id => ?_, ?_, fun e he => ?_⟩
          · show ((if y.id = id then y.opn - o else 0) + openL id R) + (outV id (tradedE x.id y.id y.price o) + 0) = (if y.id = id then y.opn else 0) + openL id R + _
            rw [outV_traded]
            simp only
            split <;> split <;> omega
          · simp [sumT, tradedE]; omega
          · simp at he
            rw [he]
            exact ⟨by simp [tradedE], traded_b hx hy.2 (by omega)⟩
    · rw [if_neg hgo]
      refine ⟨[], by simp, fun id => ?_, by simp [sumT], by simp⟩
      simp [outE]
theorem openS_upd {M : Nat → List Ord} {j : Nat} {L : List Ord} (hj : j < 2) (id : Int) : openS (upd M j L) id = openS M id - openL id (M j) + openL id L := by
  unfold openS
  match j, hj with
  | 0, _ => rw [upd_self, upd_other (by omega)]; omega
  | 1, _ => rw [upd_self, upd_other (by omega)]; omega
theorem openS_put {M : Nat → List Ord} {x : Ord} (hs : x.side = 1 ∨ x.side = 2) (id : Int) : openS (putM x M) id = openS M id + if x.id = id then x.opn else 0 := by
  have hp : ∀ (sd : Int) (L : List Ord), openL id (putO sd x L) = openL id L + if x.id = id then x.opn else 0 := fun sd L => by
    unfold putO
    have := openL_append id (L.take (placeO sd x.price L)) (L.drop (placeO sd x.price L))
    rw [List.take_append_drop] at this
    rw [openL_append, this]
    show _ + ((if x.id = id then x.opn else 0) + _) = _
    omega
  unfold openS putM
  rcases hs with e | e
  · rw [if_pos (by rw [e]; rfl), if_neg (by rw [e]; decide), hp]; omega
  · rw [if_neg (by rw [e]; decide), if_pos (by rw [e]; rfl), hp]; omega

/-- What a command does to a book, and tells. -/
structure Led (m : Int) (M M' : Nat → List Ord) (E : List Ev) : Prop where
  cons : ∀ id, openS M' id + outE id E = openS M id + tknE id E
  evs : ∀ e ∈ E, EvB m e
  sum : 0 ≤ sumT E ∧ sumT E ≤ 200000000
theorem enterB_led {k : Nat} {tr : Bool} {M : Nat → List Ord} {x : Ord} {kind m : Int} (h : BkOk k M) (hs : x.side = 1 ∨ x.side = 2) (hid : ∀ j, j < 2 → ∀ o ∈ M j, o.id ≤ m) (hx : 0 ≤ x.id ∧ x.id ≤ m) (hop : 0 ≤ x.opn ∧ x.opn ≤ 1000000) :
    Led m M (enterB tr M x kind).1 (enterB tr M x kind).2.2 ∧ sumT (enterB tr M x kind).2.2 = (enterB tr M x kind).2.1 ∧ ∃ N, (enterB tr M x kind).2.2 = takenE x.id x.opn :: N ∧ ∀ e ∈ N, e.what ≠ 2 := by
  have hspec := meetB_spec (tr := tr) (M := M) (x := x) (kind := kind) (h.opns (fj_lt _)) hop.1
  obtain ⟨N, e1, e2, e3, e4⟩ : ∃ N, (meetB tr M x kind).2.2.2 = N ∧ (∀ id, openL id (meetB tr M x kind).1 + outE id N = openL id (M (fj x.side)) + if x.id = id then x.opn - (meetB tr M x kind).2.2.1 else 0) ∧ sumT N = (meetB tr M x kind).2.1 ∧ ∀ e ∈ N, e.what ≠ 2 ∧ EvB m e := by
    cases tr with
    | true =>
      have e : meetB true M x kind = meetP (rch kind x.side x.price) x (M (fj x.side)) 0 x.opn [] := by simp [meetB]
      rw [e]
      obtain ⟨N, e1, e2, e3, e4⟩ := meetP_led (rc := rch kind x.side x.price) (x := x) (m := m) hx (t := 0) (o := x.opn) (E := []) (fun y hy => by
        have h1 := h.opns (fj_lt x.side) y hy
        have h2 := (h.ord _ (fj_lt x.side) y hy).1.id
        exact ⟨h1.1, by omega, hid _ (fj_lt x.side) y hy⟩) hop.1
      exact ⟨N, by rw [e1]; rfl, e2, by rw [e3]; omega, e4⟩
    | false =>
      have e : meetB false M x kind = (M (fj x.side), 0, x.opn, []) := by simp [meetB]
      rw [e]
      exact ⟨[], rfl, fun id => by simp [outE], rfl, by simp⟩
  generalize hR : (meetB tr M x kind).2.2.1 = R at *
  generalize hT : (meetB tr M x kind).2.1 = T at *
  have hM1 : ∀ id, openS (upd M (fj x.side) (meetB tr M x kind).1) id + outE id N = openS M id + if x.id = id then x.opn - R else 0 := fun id => by
    rw [openS_upd (fj_lt _)]
    have := e2 id
    omega
  have htk : ∀ id E, tknE id (takenE x.id x.opn :: E) = (if x.id = id then x.opn else 0) + tknE id E := fun id E => rfl
  have hot : ∀ id E, outE id (takenE x.id x.opn :: E) = outE id E := fun id E => by
    show outV id (takenE x.id x.opn) + _ = _
    simp [outV, takenE]
  have hst : ∀ E, sumT (takenE x.id x.opn :: E) = sumT E := fun E => by
    show (if (takenE x.id x.opn).what = 3 then _ else 0) + _ = _
    rw [if_neg (by simp [takenE])]
    omega
  have hbt : EvB m (takenE x.id x.opn) := ⟨hx, ⟨Int.le_refl _, by show (0 : Int) ≤ m; omega⟩, hop.1⟩
  have hsum : 0 ≤ T ∧ T ≤ 200000000 := by
    have := hspec.2.1
    omega
  have hTN := tknE_none (id := 0) (E := N) fun e he => (e4 e he).1
  unfold enterB
  simp only [e1, hR, hT]
  by_cases hz : R = 0
  · rw [if_pos hz]
    refine ⟨⟨fun id => ?_, fun e he => ?_, by rw [hst, e3]; exact hsum⟩, by rw [hst, e3], N, rfl, fun e he => (e4 e he).1⟩
    · have h1 := hM1 id
      rw [htk, hot, tknE_none fun e he => (e4 e he).1]
      simp only
      split at h1 <;> split <;> first | omega | (exfalso; omega)
    · rcases List.mem_cons.1 he with rfl | he
      · exact hbt
      · exact (e4 e he).2
  · rw [if_neg hz]
    by_cases hw : waitsB kind = true
    · rw [if_pos hw]
      have hr : ∀ id, outE id [restsE x.id x.price R] = 0 := fun id => by simp [outE, outV, restsE]
      have hrt : ∀ id, tknE id [restsE x.id x.price R] = 0 := fun id => by simp [tknE, tknV, restsE]
      refine ⟨⟨fun id => ?_, fun e he => ?_, ?_⟩, ?_, N ++ [restsE x.id x.price R], rfl, fun e he => ?_⟩
      · have h1 := hM1 id
        rw [List.cons_append, htk, hot, outE_append, tknE_append, hr, hrt, tknE_none fun e he => (e4 e he).1, openS_put (x := { x with opn := R }) hs]
        simp only
        split at h1 <;> split <;> first | omega | (exfalso; omega)
      · rw [List.cons_append] at he
        rcases List.mem_cons.1 he with rfl | he
        · exact hbt
        · rcases List.mem_append.1 he with he | he
          · exact (e4 e he).2
          · simp at he
            rw [he]
            exact ⟨hx, ⟨Int.le_refl _, by show (0 : Int) ≤ m; omega⟩, by show 0 ≤ R; omega⟩
      · rw [List.cons_append, hst, sumT_append, e3]
        have : sumT [restsE x.id x.price R] = 0 := rfl
        omega
      · rw [List.cons_append, hst, sumT_append, e3]
        have : sumT [restsE x.id x.price R] = 0 := rfl
        simp only
        omega
      · rcases List.mem_append.1 he with he | he
        · exact (e4 e he).1
        · simp at he; rw [he]; simp [restsE]
    · rw [if_neg hw]
      have hr : ∀ id, outE id [goneE x.id R] = if x.id = id then R else 0 := fun id => by
        show outV id (goneE x.id R) + 0 = _
        rw [outV_gone]
        omega
      have hrt : ∀ id, tknE id [goneE x.id R] = 0 := fun id => by simp [tknE, tknV, goneE]
      refine ⟨⟨fun id => ?_, fun e he => ?_, ?_⟩, ?_, N ++ [goneE x.id R], rfl, fun e he => ?_⟩
      · have h1 := hM1 id
        rw [List.cons_append, htk, hot, outE_append, tknE_append, hr, hrt, tknE_none fun e he => (e4 e he).1]
        simp only
        split at h1 <;> split <;> first | omega | (exfalso; omega)
      · rw [List.cons_append] at he
        rcases List.mem_cons.1 he with rfl | he
        · exact hbt
        · rcases List.mem_append.1 he with he | he
          · exact (e4 e he).2
          · simp at he
            rw [he]
            exact ⟨hx, ⟨Int.le_refl _, by show (0 : Int) ≤ m; omega⟩, by show 0 ≤ R; omega⟩
      · rw [List.cons_append, hst, sumT_append, e3]
        have : sumT [goneE x.id R] = 0 := rfl
        omega
      · rw [List.cons_append, hst, sumT_append, e3]
        have : sumT [goneE x.id R] = 0 := rfl
        simp only
        omega
      · rcases List.mem_append.1 he with he | he
        · exact (e4 e he).1
        · simp at he; rw [he]; simp [goneE]
end Go.Proofs.Ytigpgnjgmaoejaa

/- Plain mathematics for Kept: what each command but Change does to the ledger. Conditions: all is in book 1, numbers are as the steps give them. -/
namespace Go.Proofs.Ytigpgnjgmaoejaa

/-- All that rests is in book 1. -/
def OnlyO (s : St) : Prop := ∀ k, 1 ≤ k → k < 8 → ∀ j, j < 2 → s.M k j = []
structure KeptE (i : Int) (s s' : St) (E : List Ev) : Prop where
  led : Led (i + 1) (s.M 0) (s'.M 0) E
  td : s'.td 0 = wrp (s.td 0 + sumT E)
  vol : s'.vol = wrp (s.vol + sumT E)
  only : OnlyO s'
  ids : IdsLe s' (i + 1)
  head : ∀ k (hk : k < E.length), E[k].what = 2 → k = 0 ∧ E[k].id = i + 1
  len : E.length ≤ 1000
  tk : ∀ e ∈ E, e.what = 2 → e.count ≤ 1000000
theorem IdsLe.up {s : St} {a b : Int} (h : IdsLe s a) (hab : a ≤ b) : IdsLe s b := fun k hk j hj o ho => by have := h k hk j hj o ho; omega
/-- No trade, none taken. -/
theorem kept_calm {i : Int} {s s' : St} {E : List Ev} (hw : WF s) (hcons : ∀ id, openS (s'.M 0) id + outE id E = openS (s.M 0) id) (hev : ∀ e ∈ E, e.what ≠ 2 ∧ e.what ≠ 3 ∧ EvB (i + 1) e) (htd : s'.td = s.td) (hvol : s'.vol = s.vol) (ho : OnlyO s') (hid : IdsLe s' (i + 1)) (hl : E.length ≤ 1000) : KeptE i s s' E := by
  have hs : sumT E = 0 := sumT_none fun e he => (hev e he).2.1
  refine ⟨⟨fun id => ?_, fun e he => (hev e he).2.2, by omega⟩, ?_, ?_, ho, hid, fun k hk h => absurd h (hev _ (List.getElem_mem hk)).1, hl, fun e he h => absurd h (hev e he).1⟩
  · rw [tknE_none fun e he => (hev e he).1, hcons]; omega
  · rw [hs, htd, Int.add_zero]; exact (hw.td 0 (by omega)).symm
  · rw [hs, hvol, Int.add_zero]; exact hw.vol.symm
theorem kept_refused {i : Int} {s : St} (hw : WF s) (ho : OnlyO s) (hid : IdsLe s i) {a e : Int} (ha : 0 ≤ a ∧ a ≤ i + 1) : KeptE i s s [refusedE a e] := by
  refine kept_calm hw (fun id => ?_) (fun x hx => ?_) rfl rfl ho (hid.up (by omega)) (by simp)
  · have : outE id [refusedE a e] = 0 := by simp [outE, outV, refusedE]
    omega
  · simp at hx
    rw [hx]
    exact ⟨by simp [refusedE], by simp [refusedE], ha, ⟨Int.le_refl _, by show (0 : Int) ≤ i + 1; omega⟩, Int.le_refl _⟩

theorem kept_new {i : Int} {s : St} (hw : WF s) (ho : OnlyO s) (hid : IdsLe s i) (hi : 0 ≤ i) {c : Cmd} (hb : c.book = 1) (hci : c.id = i + 1) : KeptE i s (sNew s c).1 (sNew s c).2 := by
  unfold sNew
  split
  · exact kept_refused hw ho hid (by omega)
  · rename_i hok
    obtain ⟨o1, o2, o3, o4, o5, o6, o7⟩ := newOk_all (c := c) (by simpa using hok)
    split
    · exact kept_refused hw ho hid (by omega)
    · split
      · exact kept_refused hw ho hid (by omega)
      · have hbk : bk c.book = 0 := by rw [hb]; rfl
        rw [hbk]
        have hB := hw.book 0 (by omega)
        obtain ⟨hled, hsum, N, hN, hN2⟩ := enterB_led (tr := s.tr 0) (M := s.M 0) (x := ordOf c) (kind := c.kind) (m := i + 1) hB o4 (fun j hj o ho => by have := hid 0 (by omega) j hj o ho; omega) (by show 0 ≤ c.id ∧ c.id ≤ i + 1; omega) (by show 0 ≤ c.count ∧ c.count ≤ 1000000; omega)
        have hids := enter_ids hw (hid.up (by omega : i ≤ i + 1)) (k := 0) (x := ordOf c) (kind := c.kind) (by show 0 ≤ c.count; omega) (by show c.id ≤ i + 1; omega)
        have hlen : (enterB (s.tr 0) (s.M 0) (ordOf c) c.kind).2.2.length ≤ 1000 := by
          have hm : (meetB (s.tr 0) (s.M 0) (ordOf c) c.kind).2.2.2.length ≤ 200 := by
            have hc := hB.cap
            have hl : (s.M 0 (fj (ordOf c).side)).length ≤ 200 := by
              have h2 := fj_lt (ordOf c).side
              generalize fj (ordOf c).side = q at *
              match q, h2 with
              | 0, _ => omega
              | 1, _ => omega
            unfold meetB
            split
            · have := meetP_evs0 (rc := rch c.kind (ordOf c).side (ordOf c).price) (x := ordOf c) (L := s.M 0 (fj (ordOf c).side)) (t := 0) (o := (ordOf c).opn) (E := [])
              simp at this
              omega
            · simp
          unfold enterB
          simp only
          split
          · simp; omega
          · split
            · simp; omega
            · simp; omega
        refine ⟨?_, ?_, ?_, ?_, hids, ?_, hlen, fun e he h2 => by
          have he : e ∈ (enterB (s.tr 0) (s.M 0) (ordOf c) c.kind).2.2 := he
          rw [hN] at he
          rcases List.mem_cons.1 he with rfl | he
          · show c.count ≤ 1000000
            omega
          · exact absurd h2 (hN2 e he)⟩
        · show Led (i + 1) (s.M 0) (upd s.M 0 (enterB (s.tr 0) (s.M 0) (ordOf c) c.kind).1 0) _
          rw [upd_self]
          exact hled
        · show upd s.td 0 (wrp (s.td 0 + (enterB (s.tr 0) (s.M 0) (ordOf c) c.kind).2.1)) 0 = wrp (s.td 0 + sumT (enterB (s.tr 0) (s.M 0) (ordOf c) c.kind).2.2)
          rw [upd_self, hsum]
        · show wrp (s.vol + (enterB (s.tr 0) (s.M 0) (ordOf c) c.kind).2.1) = wrp (s.vol + sumT (enterB (s.tr 0) (s.M 0) (ordOf c) c.kind).2.2)
          rw [hsum]
        · intro k hk1 hk8 j hj
          show upd s.M 0 _ k j = []
          rw [upd_other (by omega)]
          exact ho k hk1 hk8 j hj
        · intro k hk hwk
          have hk : k < (enterB (s.tr 0) (s.M 0) (ordOf c) c.kind).2.2.length := hk
          have hwk : ((enterB (s.tr 0) (s.M 0) (ordOf c) c.kind).2.2[k]).what = 2 := hwk
          show k = 0 ∧ ((enterB (s.tr 0) (s.M 0) (ordOf c) c.kind).2.2[k]).id = i + 1
          simp only [hN] at hwk hk ⊢
          cases k with
          | zero => exact ⟨rfl, hci⟩
          | succ k => exact absurd hwk (hN2 _ (List.getElem_mem _))

theorem openL_without {a id : Int} : ∀ {L : List Ord}, openL id (without a L) = if a = id then 0 else openL id L
  | [] => by simp [without, openL]
  | x :: L => by
    have ih := openL_without (a := a) (id := id) (L := L)
    unfold without at ih ⊢
    by_cases hx : x.id = a
    · rw [List.filter_cons_of_neg (by simp [hx]), ih]
      by_cases hi : a = id
      · rw [if_pos hi, if_pos hi]
      · rw [if_neg hi, if_neg hi]
        show _ = (if x.id = id then x.opn else 0) + openL id L
        rw [if_neg (by omega)]
        omega
    · rw [List.filter_cons_of_pos (by simp [hx])]
      show (if x.id = id then x.opn else 0) + openL id (List.filter _ L) = if a = id then 0 else (if x.id = id then x.opn else 0) + openL id L
      rw [ih]
      by_cases hi : a = id
      · rw [if_pos hi, if_neg (by omega), if_pos hi]; rfl
      · rw [if_neg hi, if_neg hi]
theorem openL_mem {x : Ord} : ∀ {L : List Ord}, (L.map Ord.id).Nodup → x ∈ L → openL x.id L = x.opn
  | [], _, h => by cases h
  | y :: L, hn, h => by
    rw [List.map_cons, List.nodup_cons] at hn
    unfold openL
    rcases List.mem_cons.1 h with rfl | h
    · rw [if_pos rfl, openL_none fun z hz e => hn.1 (by rw [← e]; exact List.mem_map_of_mem hz)]
      omega
    · rw [if_neg (fun e => hn.1 (by rw [e]; exact List.mem_map_of_mem h)), openL_mem hn.2 h]
      omega
theorem openS_mem {M : Nat → List Ord} (hu : Uniq M) {x : Ord} {j : Nat} (hj : j < 2) (h : x ∈ M j) : openS M x.id = x.opn := by
  unfold Uniq at hu
  obtain ⟨h0, h1, hd⟩ := List.nodup_append.1 hu
  unfold openS
  match j, hj with
  | 0, _ =>
    rw [openL_mem h0 h, openL_none fun z hz e => hd _ (List.mem_map_of_mem h) _ (List.mem_map_of_mem hz) e.symm]
    omega
  | 1, _ =>
    rw [openL_mem h1 h, openL_none fun z hz e => hd _ (List.mem_map_of_mem hz) _ (List.mem_map_of_mem h) e]
    omega
theorem only_book {s : St} (ho : OnlyO s) {x : Ord} {k j : Nat} (hk : k < 8) (hj : j < 2) (h : x ∈ s.M k j) : k = 0 := by
  cases k with
  | zero => rfl
  | succ k => rw [ho (k + 1) (by omega) hk j hj] at h; cases h
theorem getO_free {M : Nat → List Ord} {id : Int} (h : getO M id = none) : ∀ j, j < 2 → ∀ y ∈ M j, y.id ≠ id := by
  have hs : ∀ {L : List Ord} {k : Nat}, findO L id = some k → L[k]? ≠ none := fun {L} {k} hf => by
    unfold findO at hf
    obtain ⟨hi, _⟩ := List.findIdx?_eq_some_iff_getElem.1 hf
    rw [List.getElem?_eq_getElem hi]
    simp
  have hn : ∀ {L : List Ord}, findO L id = none → ∀ y ∈ L, y.id ≠ id := fun {L} hf y hy => by
    unfold findO at hf
    have := List.findIdx?_eq_none_iff.1 hf y hy
    simpa using this
  unfold getO at h
  cases h0 : findO (M 0) id with
  | some k => rw [h0] at h; exact absurd h (hs h0)
  | none =>
    rw [h0] at h
    cases h1 : findO (M 1) id with
    | some k => rw [h1] at h; exact absurd h (hs h1)
    | none =>
      intro j hj
      match j, hj with
      | 0, _ => exact hn h0
      | 1, _ => exact hn h1
/-- What is open under a number, by the pit's own answer. -/
theorem getAt_open {s : St} (hw : WF s) (ho : OnlyO s) (id : Int) : openS (s.M 0) id = match getAt s id with | some x => x.opn | none => 0 := by
  cases hg : getAt s id with
  | some x =>
    obtain ⟨e, h8, _, _, j, hj, hm⟩ := getAt_in hw hg
    have hk := only_book ho h8 hj hm
    rw [hk] at hm
    rw [← e]
    exact openS_mem (hw.book 0 (by omega)).ids hj hm
  | none =>
    have hn : getO (s.M 0) id = none := getTo_none hg 0 (by omega)
    unfold openS
    rw [openL_none (getO_free hn 0 (by omega)), openL_none (getO_free hn 1 (by omega))]
    rfl
theorem kept_cancel {i : Int} {s : St} (hw : WF s) (ho : OnlyO s) (hid : IdsLe s i) {c : Cmd} (hci : 0 ≤ c.id ∧ c.id ≤ i + 1) : KeptE i s (sCancel s c).1 (sCancel s c).2 := by
  unfold sCancel
  split
  · exact kept_refused hw ho hid hci
  · split
    · exact kept_refused hw ho hid hci
    · rename_i x hx
      obtain ⟨_, e, h8, _, _, j, hj, hm⟩ := getOf_in hw hx
      have hk := only_book ho h8 hj hm
      rw [hk] at hm ⊢
      have hB := hw.book 0 (by omega)
      have hop := openS_mem hB.ids hj hm
      have hpos := (hB.opns hj x hm).1
      have hidx := (hB.ord j hj x hm).1.id
      refine kept_calm hw (fun id => ?_) (fun y hy => ?_) rfl rfl (fun k hk1 hk8 j hj => ?_) ((rem_ids hid _ _).up (by omega)) (by simp)
      · show openL id (upd s.M 0 (fun j => without x.id (s.M 0 j)) 0 0) + openL id (upd s.M 0 (fun j => without x.id (s.M 0 j)) 0 1) + (outV id (goneE x.id x.opn) + 0) = _
        rw [upd_self, openL_without, openL_without, outV_gone]
        by_cases h : x.id = id
        · rw [if_pos h, if_pos h, if_pos h, ← h, hop]; omega
        · rw [if_neg h, if_neg h, if_neg h]; unfold openS; omega
      · simp at hy
        rw [hy]
        exact ⟨by simp [goneO, goneE], by simp [goneO, goneE], goneO_b (by omega) (by omega)⟩
      · show upd s.M 0 _ k j = []
        rw [upd_other (by omega)]
        exact ho k hk1 hk8 j hj
theorem openL_split {id : Int} (p : Ord → Bool) : ∀ {L : List Ord}, openL id (L.filter fun o => !p o) + outE id ((L.filter p).map goneO) = openL id L
  | [] => rfl
  | x :: L => by
    have ih := openL_split (id := id) p (L := L)
    cases hp : p x with
    | true =>
      rw [List.filter_cons_of_neg (by simp [hp]), List.filter_cons_of_pos hp, List.map_cons]
      show _ + (outV id (goneE x.id x.opn) + _) = (if x.id = id then x.opn else 0) + _
      rw [outV_gone]
      omega
    | false =>
      rw [List.filter_cons_of_pos (by simp [hp]), List.filter_cons_of_neg (by simp [hp])]
      show (if x.id = id then x.opn else 0) + _ + _ = (if x.id = id then x.opn else 0) + _
      omega
theorem kept_all {i : Int} {s : St} (hw : WF s) (ho : OnlyO s) (hid : IdsLe s i) (hi : 0 ≤ i) {c : Cmd} : KeptE i s (sCancelAll s c).1 (sCancelAll s c).2 := by
  unfold sCancelAll
  split
  · exact kept_refused hw ho hid (by omega)
  · have hB := hw.book 0 (by omega)
    have he : ∀ k, 1 ≤ k → k < 8 → ofT2 (s.M k) c.trader = [] := fun k h1 h8 => by
      unfold ofT2
      rw [ho k h1 h8 0 (by omega), ho k h1 h8 1 (by omega)]
      rfl
    have hF : ((List.range 8).flatMap fun k => ofT2 (s.M k) c.trader) = ofT2 (s.M 0) c.trader := by
      have hr : List.range 8 = [0, 1, 2, 3, 4, 5, 6, 7] := rfl
      rw [hr]
      simp only [List.flatMap_cons, List.flatMap_nil]
      rw [he 1 (by omega) (by omega), he 2 (by omega) (by omega), he 3 (by omega) (by omega), he 4 (by omega) (by omega), he 5 (by omega) (by omega), he 6 (by omega) (by omega), he 7 (by omega) (by omega)]
      simp
    rw [hF]
    refine kept_calm hw (fun id => ?_) (fun y hy => ?_) rfl rfl (fun k hk1 hk8 j hj => ?_) (fun k hk j hj o h => ?_) ?_
    · have h0 := openL_split (id := id) (isOf c.trader) (L := s.M 0 0)
      have h1 := openL_split (id := id) (isOf c.trader) (L := s.M 0 1)
      show openL id ((s.M 0 0).filter _) + openL id ((s.M 0 1).filter _) + outE id ((ofT2 (s.M 0) c.trader).map goneO) = openL id (s.M 0 0) + openL id (s.M 0 1)
      unfold ofT2
      rw [List.map_append, outE_append]
      omega
    · obtain ⟨o, hm, rfl⟩ := List.mem_map.1 hy
      unfold ofT2 at hm
      have : ∃ j, j < 2 ∧ o ∈ s.M 0 j := by
        rcases List.mem_append.1 hm with h | h
        · exact ⟨0, by omega, (List.mem_filter.1 h).1⟩
        · exact ⟨1, by omega, (List.mem_filter.1 h).1⟩
      obtain ⟨j, hj, hmj⟩ := this
      have h1 := (hB.ord j hj o hmj).1.id
      have h2 := hid 0 (by omega) j hj o hmj
      have h3 := (hB.opns hj o hmj).1
      exact ⟨by simp [goneO, goneE], by simp [goneO, goneE], goneO_b (by omega) (by omega)⟩
    · show (s.M k j).filter _ = []
      rw [ho k hk1 hk8 j hj]
      rfl
    · have := hid k hk j hj o (List.mem_filter.1 h).1
      omega
    · have h0 := List.length_filter_le (isOf c.trader) (s.M 0 0)
      have h1 := List.length_filter_le (isOf c.trader) (s.M 0 1)
      have hc := hB.cap
      rw [List.length_map]
      unfold ofT2
      rw [List.length_append]
      omega
theorem cutO_led {n : Int} {a : Ord} {A : List Ord} (id : Int) : openL id (cutO n a A) = openL id (a :: A) - if a.id = id then n else 0 := by
  unfold cutO
  split
  · rename_i e
    show _ = (if a.id = id then a.opn else 0) + openL id A - _
    rw [e]
    omega
  · show (if a.id = id then a.opn - n else 0) + openL id A = (if a.id = id then a.opn else 0) + openL id A - _
    split <;> omega
theorem tradeF_led {p m : Int} : ∀ (f : Nat) (A B : List Ord) (v : Int) (E : List Ev), (∀ y ∈ A, (1 ≤ y.opn ∧ y.opn ≤ 1000000) ∧ 0 ≤ y.id ∧ y.id ≤ m) → (∀ y ∈ B, (1 ≤ y.opn ∧ y.opn ≤ 1000000) ∧ 0 ≤ y.id ∧ y.id ≤ m) →
    ∃ N, (tradeF p f A B v E).2.2 = E ++ N ∧ (∀ id, openL id (tradeF p f A B v E).1 + openL id (tradeF p f A B v E).2.1 + outE id N = openL id A + openL id B) ∧ ∀ e ∈ N, e.what = 3 ∧ EvB m e
  | 0, A, B, _, E, _, _ => ⟨[], by simp [tradeF], fun id => by simp [tradeF, outE], by simp⟩
  | _ + 1, [], B, _, E, _, _ => ⟨[], by simp [tradeF], fun id => by simp [tradeF, outE], by simp⟩
  | _ + 1, a :: A, [], _, E, _, _ => ⟨[], by simp [tradeF], fun id => by simp [tradeF, outE], by simp⟩
  | f + 1, a :: A, b :: B, v, E, hA, hB => by
    rw [tradeF]
    split
    · have hm := minO_le a.opn b.opn
      have ha := hA a List.mem_cons_self
      have hb := hB b List.mem_cons_self
      have cA := cutO_sub (n := minO a.opn b.opn) (fun y hy => (hA y hy).1) (by omega : 0 ≤ minO a.opn b.opn ∧ minO a.opn b.opn ≤ a.opn)
      have cB := cutO_sub (n := minO a.opn b.opn) (fun y hy => (hB y hy).1) (by omega : 0 ≤ minO a.opn b.opn ∧ minO a.opn b.opn ≤ b.opn)
      obtain ⟨N, e1, e2, e3⟩ := tradeF_led (p := p) (m := m) f (cutO (minO a.opn b.opn) a A) (cutO (minO a.opn b.opn) b B) (v - minO a.opn b.opn) (E ++ [tradedE a.id b.id p (minO a.opn b.opn)])
        (fun y hy => ⟨cA.2 y hy, by
          obtain ⟨z, hz, e⟩ := cA.mem hy
          simp only [key, Prod.mk.injEq] at e
          rw [e.1]; exact (hA z hz).2⟩)
        (fun y hy => ⟨cB.2 y hy, by
          obtain ⟨z, hz, e⟩ := cB.mem hy
          simp only [key, Prod.mk.injEq] at e
          rw [e.1]; exact (hB z hz).2⟩)
      refine ⟨tradedE a.id b.id p (minO a.opn b.opn) :: N, by rw [e1]; simp, fun id => ?_, fun e he => ?_⟩
      · have := e2 id
        rw [cutO_led, cutO_led] at this
        show _ + (outV id (tradedE a.id b.id p (minO a.opn b.opn)) + outE id N) = _
        rw [outV_traded]
        omega
      · rcases List.mem_cons.1 he with rfl | he
        · exact ⟨rfl, traded_b ha.2 hb.2 (by omega)⟩
        · exact e3 e he
    · exact ⟨[], by simp, fun id => by simp [outE], by simp⟩
theorem kept_open {i : Int} {s : St} (hw : WF s) (ho : OnlyO s) (hid : IdsLe s i) (hi : 0 ≤ i) {c : Cmd} (hb : c.book = 1) : KeptE i s (sOpen s c).1 (sOpen s c).2 := by
  unfold sOpen
  split
  · exact kept_refused hw ho hid (by omega)
  · split
    · exact kept_refused hw ho hid (by omega)
    · have hbk : bk c.book = 0 := by rw [hb]; rfl
      rw [hbk]
      have hB := hw.book 0 (by omega)
      obtain ⟨_, N, hN, hN2, hN3, hN4⟩ := open_all hB
      have hcond : ∀ j, j < 2 → ∀ y ∈ s.M 0 j, (1 ≤ y.opn ∧ y.opn ≤ 1000000) ∧ 0 ≤ y.id ∧ y.id ≤ i + 1 := fun j hj y hy => by
        have h1 := hB.opns hj y hy
        have h2 := (hB.ord j hj y hy).1.id
        have h3 := hid 0 (by omega) j hj y hy
        omega
      obtain ⟨N', e1, e2, e3⟩ := tradeF_led (p := (openTn (s.M 0)).price) (m := i + 1) ((s.M 0 0).length + (s.M 0 1).length) (s.M 0 0) (s.M 0 1) (openTn (s.M 0)).vol [] (hcond 0 (by omega)) (hcond 1 (by omega))
      have hNN : N' = N := by
        have h1 : openE (s.M 0) = N' ++ [openedE (openTn (s.M 0)).price (openTn (s.M 0)).vol] := by unfold openE tradeB; rw [e1]; simp
        rw [hN] at h1
        exact (List.append_cancel_right h1).symm
      subst hNN
      have hE : (s.open_ 0).2 = N' ++ [openedE (openTn (s.M 0)).price (openTn (s.M 0)).vol] := hN
      have hsO : sumT [openedE (openTn (s.M 0)).price (openTn (s.M 0)).vol] = 0 := by simp [sumT, openedE]
      have hsum : sumT (s.open_ 0).2 = (openTn (s.M 0)).vol := by rw [hE, sumT_append, hN3, hsO]; omega
      have hn := openTn_nonneg (s.M 0)
      have hbd := openTn_bound hB
      have htz := openTn_zero hB
      refine ⟨⟨fun id => ?_, fun e he => ?_, by rw [hsum]; exact ⟨hn, hbd⟩⟩, ?_, ?_, fun k hk1 hk8 j hj => ?_, fun k hk j hj o h => ?_, fun k hk hwk => ?_, ?_, fun e he h2 => ?_⟩
      · rw [hE, outE_append, tknE_append, tknE_none fun e he => by have := (e3 e he).1; omega]
        have h1 : outE id [openedE (openTn (s.M 0)).price (openTn (s.M 0)).vol] = 0 := by simp [outE, outV, openedE]
        have h2 : tknE id [openedE (openTn (s.M 0)).price (openTn (s.M 0)).vol] = 0 := by simp [tknE, tknV, openedE]
        have h3 := e2 id
        have h4 : openS ((s.open_ 0).1.M 0) id = openL id (tradeB (s.M 0)).1 + openL id (tradeB (s.M 0)).2.1 := rfl
        have h5 : openL id (tradeB (s.M 0)).1 + openL id (tradeB (s.M 0)).2.1 + outE id N' = openL id (s.M 0 0) + openL id (s.M 0 1) := h3
        unfold openS at h4 ⊢
        omega
      · rw [hE] at he
        rcases List.mem_append.1 he with he | he
        · exact (e3 e he).2
        · simp at he
          rw [he]
          exact ⟨⟨Int.le_refl _, by show (0 : Int) ≤ i + 1; omega⟩, ⟨Int.le_refl _, by show (0 : Int) ≤ i + 1; omega⟩, hn⟩
      · rw [hsum]; rfl
      · rw [hsum]; rfl
      · show upd s.M 0 _ k j = []
        rw [upd_other (by omega)]
        exact ho k hk1 hk8 j hj
      · by_cases hk0 : k = 0
        · subst hk0
          have h : o ∈ openM (s.M 0) j := h
          obtain ⟨z, hz, e⟩ := (openM_sub hB j hj).mem h
          simp only [key, Prod.mk.injEq] at e
          have := hid 0 hk j hj z hz
          omega
        · have h : o ∈ upd s.M 0 (openM (s.M 0)) k j := h
          rw [upd_other hk0] at h
          have := hid k hk j hj o h
          omega
      · exfalso
        have hm : (s.open_ 0).2[k] ∈ (s.open_ 0).2 := List.getElem_mem hk
        generalize (s.open_ 0).2[k] = e at hm hwk
        rw [hE] at hm
        rcases List.mem_append.1 hm with h | h
        · have := (e3 e h).1; omega
        · simp at h
          rw [h] at hwk
          simp [openedE] at hwk
      · rw [hE]; simp; omega
      · exfalso
        rw [hE] at he
        rcases List.mem_append.1 he with h | h
        · have := (e3 e h).1; omega
        · simp at h
          rw [h] at h2
          simp [openedE] at h2
/-- Every command of Kept's. -/
theorem sDo_kept {i : Int} {s : St} (hw : WF s) (ho : OnlyO s) (hid : IdsLe s i) (hi : 0 ≤ i) {c : Cmd} (hb : c.book = 1) (h1 : c.what = 1 → c.id = i + 1) (h2 : 0 ≤ c.id ∧ c.id ≤ i + 1) (hc : c.what = 1 ∨ c.what = 2 ∨ c.what = 4 ∨ c.what = 5) : KeptE i s (sDo s c).1 (sDo s c).2 := by
  unfold sDo
  rcases hc with e | e | e | e
  · rw [if_pos e]; exact kept_new hw ho hid hi hb (h1 e)
  · rw [if_neg (by omega), if_pos e]; exact kept_cancel hw ho hid h2
  · rw [if_neg (by omega), if_neg (by omega), if_neg (by omega), if_pos e]; exact kept_all hw ho hid hi
  · rw [if_neg (by omega), if_neg (by omega), if_neg (by omega), if_neg (by omega), if_pos e]; exact kept_open hw ho hid hi hb

/-- The ledger, between two commands. -/
structure LI (i : Int) (n : Nat) (s : St) (T O : Nat → Int) (V : Int) : Prop where
  only : OnlyO s
  ids : IdsLe s i
  nn : 0 ≤ i
  bal : ∀ id : Nat, id ≤ n → T id = O id + openS (s.M 0) id
  fresh : ∀ id : Nat, i < (id : Int) → T id = 0 ∧ O id = 0
  bnd : ∀ id : Nat, T id ≤ 1000000
  opos : ∀ id : Nat, 0 ≤ O id
  td : s.td 0 = V
  vol : s.vol = V + 2
  vb : 0 ≤ V ∧ V ≤ i * 200000000
theorem outV_nonneg {m id : Int} {x : Ev} (h : EvB m x) : 0 ≤ outV id x := by
  have := h.count
  unfold outV
  split
  · split <;> split <;> omega
  · split
    · split <;> omega
    · omega
theorem outE_nonneg {m id : Int} : ∀ {E : List Ev}, (∀ e ∈ E, EvB m e) → 0 ≤ outE id E
  | [], _ => Int.le_refl _
  | x :: E, h => by
    have h1 := outV_nonneg (id := id) (h x List.mem_cons_self)
    have h2 := outE_nonneg (id := id) fun e he => h e (List.mem_cons_of_mem _ he)
    unfold outE
    omega
theorem outE_high {m id : Int} (hm : m < id) : ∀ {E : List Ev}, (∀ e ∈ E, EvB m e) → outE id E = 0 ∧ tknE id E = 0
  | [], _ => ⟨rfl, rfl⟩
  | x :: E, h => by
    have hx := h x List.mem_cons_self
    have h1 := hx.id
    have h2 := hx.other
    obtain ⟨i1, i2⟩ := outE_high hm fun e he => h e (List.mem_cons_of_mem _ he)
    unfold outE tknE outV tknV
    rw [i1, i2, if_neg (by omega : ¬ x.id = id), if_neg (by omega : ¬ x.other = id)]
    constructor
    · split
      · rfl
      · split <;> rfl
    · split <;> rfl
theorem LI.step {i : Int} {n : Nat} {s s' : St} {T O : Nat → Int} {V : Int} {E : List Ev} (h : LI i n s T O V) (k : KeptE i s s' E) (hi : i ≤ 1000) : LI (i + 1) n s' (fun id => T id + tknE id E) (fun id => O id + outE id E) (V + sumT E) := by
  have hn := h.nn
  have hb := h.vb
  have hs := k.led.sum
  refine ⟨k.only, k.ids, by omega, fun id hid => ?_, fun id hid => ?_, fun id => ?_, fun id => ?_, ?_, ?_, by omega⟩
  · have h1 := h.bal id hid
    have h2 := k.led.cons id
    omega
  · obtain ⟨e1, e2⟩ := outE_high hid k.led.evs
    obtain ⟨e3, e4⟩ := h.fresh id (by omega)
    exact ⟨by omega, by omega⟩
  · by_cases hid : (id : Int) = i + 1
    · have hf := (h.fresh id (by omega)).1
      have : tknE id E ≤ 1000000 := by
        cases hE : E with
        | nil => simp [tknE]
        | cons x E' =>
          have hh := k.head
          have ht := k.tk
          rw [hE] at hh ht
          have hn2 : tknE id E' = 0 := tknE_none fun e he h2 => by
            obtain ⟨j, hj, e'⟩ := List.getElem_of_mem he
            have := (hh (j + 1) (by simp; omega) (by simp; rw [e']; exact h2)).1
            omega
          show tknV id x + tknE id E' ≤ _
          rw [hn2]
          unfold tknV
          split
          · rename_i h2
            have := ht x List.mem_cons_self h2
            split <;> omega
          · omega
      omega
    · have : tknE id E = 0 := by
        cases hE : E with
        | nil => rfl
        | cons x E' =>
          have hh := k.head
          rw [hE] at hh
          have hn2 : tknE id E' = 0 := tknE_none fun e he h2 => by
            obtain ⟨j, hj, e'⟩ := List.getElem_of_mem he
            have := (hh (j + 1) (by simp; omega) (by simp; rw [e']; exact h2)).1
            omega
          show tknV id x + tknE id E' = 0
          rw [hn2]
          unfold tknV
          split
          · rename_i h2
            have := (hh 0 (by simp) h2).2
            simp at this
            rw [if_neg (by omega)]
            rfl
          · rfl
      have := h.bnd id
      omega
  · have h1 := h.opos id
    have h2 := outE_nonneg (id := id) k.led.evs
    omega
  · rw [k.td, h.td]; unfold wrp; rw [IntKind.wrap_i64]; omega
  · rw [k.vol, h.vol]; unfold wrp; rw [IntKind.wrap_i64]; omega
end Go.Proofs.Ytigpgnjgmaoejaa
