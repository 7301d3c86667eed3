/- Plain mathematics: the program's books (St) and the document's list (Ref) hold the same (Sim); the commands in books that gather. Conditions: the pit is good. -/
import Derived.Test.YtigpgnjgmaoejaaGreatOpMN
import Derived.Test.YtigpgnjgmaoejaaGreatDoD
import Derived.Test.YtigpgnjgmaoejaaGreatLawLN
import Derived.Test.YtigpgnjgmaoejaaGreatDoE
import Derived.Test.YtigpgnjgmaoejaaGreatLawO
namespace Go.Proofs.YtigpgnjgmaoejaaGreat

/-- What rests in the book at a place. -/
def inBook (L : List Ord) (k : Nat) : Nat → List Ord := fun j => sideOf ((k : Int) + 1) ((j : Int) + 1) L
theorem inBook_len (L : List Ord) (k j : Nat) : (inBook L k j).length = restN L ((k : Int) + 1) ((j : Int) + 1) := sideOf_len _ _ _
/-- Both hold the same. -/
structure Sim (st : St) (s : Ref) : Prop where
  M : ∀ k, k < 8 → ∀ j, j < 2 → st.M k j = inBook s.L k j
  tr : ∀ k, k < 8 → st.tr k = s.tr (k + 1)
  td : ∀ k, k < 8 → st.td k = s.td (k + 1)
  vol : st.vol = wrp (volTo s.td 8)

/-- The order with a number. -/
def restO (L : List Ord) (id : Int) : Option Ord := (findO L id).bind fun i => L[i]?

theorem restO_mem {L : List Ord} {id : Int} (h : (L.map Ord.id).Nodup) {x : Ord} (hx : x ∈ L) (e : x.id = id) : restO L id = some x := by
  cases hf : findO L id with
  | none => exact absurd (List.mem_map_of_mem (f := Ord.id) hx) (by rw [e]; exact findO_notin hf)
  | some i =>
    have hi := findO_lt' hf
    have h1 := findO_idx hf hi
    have h2 : L[i] = x := id_inj h (List.getElem_mem hi) hx (by rw [h1, e])
    simp [restO, hf, List.getElem?_eq_getElem hi, h2]
theorem restO_none {L : List Ord} {id : Int} (h : ∀ o ∈ L, o.id ≠ id) : restO L id = none := by
  have : findO L id = none := by
    unfold findO
    rw [List.findIdx?_eq_none_iff]
    intro o ho
    simpa using h o ho
  simp [restO, this]
theorem restO_some {L : List Ord} {id : Int} {x : Ord} (h : restO L id = some x) : x ∈ L ∧ x.id = id := by
  unfold restO at h
  cases hf : findO L id with
  | none => rw [hf] at h; cases h
  | some i =>
    rw [hf] at h
    have hi := findO_lt' hf
    simp only [Option.bind_some, List.getElem?_eq_getElem hi, Option.some.injEq] at h
    subst h
    exact ⟨List.getElem_mem hi, findO_idx hf hi⟩

theorem getO_some {L : List Ord} {k : Nat} {id : Int} {x : Ord} (h : getO (inBook L k) id = some x) : x ∈ L ∧ x.id = id ∧ x.book = (k : Int) + 1 := by
  have hm : ∀ j, j < 2 → ∀ i (hi : i < (inBook L k j).length), findO (inBook L k j) id = some i → (inBook L k j)[i] ∈ L ∧ (inBook L k j)[i].id = id ∧ (inBook L k j)[i].book = (k : Int) + 1 := fun j _ i hi hf => by
    have h1 := mem_sideOf.1 (List.getElem_mem hi)
    have h2 := h1.2
    simp only [inSide, Bool.and_eq_true, beq_iff_eq] at h2
    exact ⟨h1.1, findO_idx hf hi, h2.1⟩
  rcases findR_cases 0 (inBook L k) id with ⟨i, hi, hf, hg, _⟩ | ⟨_, i, hi, hf, hg, _⟩ | ⟨_, _, hg, _⟩
  · rw [hg] at h; cases h; exact hm 0 (by omega) i hi hf
  · rw [hg] at h; cases h; exact hm 1 (by omega) i hi hf
  · rw [hg] at h; cases h
theorem getO_none {L : List Ord} {k : Nat} {id : Int} (h : getO (inBook L k) id = none) : ∀ o ∈ L, o.book = (k : Int) + 1 → (o.side = 1 ∨ o.side = 2) → o.id ≠ id := by
  intro o ho hb hs e
  rcases findR_cases 0 (inBook L k) id with ⟨i, hi, hf, hg, _⟩ | ⟨_, i, hi, hf, hg, _⟩ | ⟨h0, h1, hg, _⟩
  · rw [hg] at h; cases h
  · rw [hg] at h; cases h
  · rcases hs with hs | hs
    · exact findO_notin h0 (e ▸ List.mem_map_of_mem (mem_sideOf.2 ⟨ho, by simp [inSide, hb, hs]⟩))
    · exact findO_notin h1 (e ▸ List.mem_map_of_mem (mem_sideOf.2 ⟨ho, by simp [inSide, hb, hs]⟩))

theorem rest_none {s : Ref} (hg : Good s) {id : Int} (h : ∀ j, j < 8 → getO (inBook s.L j) id = none) : restO s.L id = none := by
  refine restO_none fun o ho => ?_
  obtain ⟨hb, hs, _⟩ := hg.ord o ho
  obtain ⟨n, hn⟩ := Int.eq_ofNat_of_zero_le (by omega : 0 ≤ o.book - 1)
  exact getO_none (h n (by omega)) o ho (by omega) hs

theorem inBook_snoc {L : List Ord} {x : Ord} {k j : Nat} : inBook (L ++ [x]) k j = if (k : Int) + 1 = x.book ∧ (j : Int) + 1 = x.side then putO x.side x (inBook L k j) else inBook L k j := by
  unfold inBook
  rw [sideOf_snoc]
  by_cases hb : (k : Int) + 1 = x.book <;> by_cases hs : (j : Int) + 1 = x.side
  · rw [if_pos (by simp [inSide, hb, hs]), if_pos ⟨hb, hs⟩, insB_place (srt_sideOf _ _ _), hs]
    simp [putO]
  · rw [if_neg (by simp [inSide]; intro _ e; exact hs e.symm), if_neg (fun h => hs h.2)]
  · rw [if_neg (by simp [inSide]; intro e; exact absurd e.symm hb), if_neg (fun h => hb h.1)]
  · rw [if_neg (by simp [inSide]; intro e; exact absurd e.symm hb), if_neg (fun h => hb h.1)]
theorem inBook_uniq {L : List Ord} (h : (L.map Ord.id).Nodup) (k : Nat) : Uniq (inBook L k) := by
  refine List.nodup_append.2 ⟨sideOf_nodup h, sideOf_nodup h, fun a ha b hb e => ?_⟩
  obtain ⟨x, hx, rfl⟩ := List.mem_map.1 ha
  obtain ⟨y, hy, rfl⟩ := List.mem_map.1 hb
  obtain ⟨hx1, hx2⟩ := mem_sideOf.1 hx
  obtain ⟨hy1, hy2⟩ := mem_sideOf.1 hy
  have := id_inj h hx1 hy1 e
  subst this
  simp only [inSide, Bool.and_eq_true, beq_iff_eq] at hx2 hy2
  have h1 := hx2.2
  have h2 := hy2.2
  rw [h1] at h2
  exact absurd h2 (by decide)
theorem inBook_without (L : List Ord) (k j : Nat) (id : Int) : inBook (without id L) k j = without id (inBook L k j) := side_without _ _ _ _
theorem inBook_reopen (L : List Ord) (k j : Nat) (id c : Int) : inBook (L.map (reopen id c)) k j = (inBook L k j).map (reopen id c) := side_reopen _ _ _ _ _
theorem notin_book {L : List Ord} (h : (L.map Ord.id).Nodup) {x : Ord} (hx : x ∈ L) {i j : Nat} (hb : x.book ≠ (i : Int) + 1) : x.id ∉ (inBook L i j).map Ord.id := fun hm => by
  obtain ⟨y, hy, e⟩ := List.mem_map.1 hm
  obtain ⟨hy1, hy2⟩ := mem_sideOf.1 hy
  have := id_inj h hy1 hx e
  subst this
  simp only [inSide, Bool.and_eq_true, beq_iff_eq] at hy2
  exact hb hy2.1
def ofT (t : Int) : Option Ord → Option Ord
  | some x => if x.trader = t then some x else none
  | none => none

/-- What Cancel and Change come to, by the order that is found. -/
theorem gTurn_of {L : List Ord} (hn : (L.map Ord.id).Nodup) {c : Cmd} (hok : turnOk c = true) :
    match ofT c.trader (restO L c.id) with
    | none => gTurn L c = (L, [refusedE c.id 4])
    | some x => x ∈ L ∧ x.id = c.id ∧ x.trader = c.trader ∧ gTurn L c =
        if c.what ≠ 3 then (without x.id L, [goneO x])
        else if c.price = x.price ∧ c.count ≤ x.opn then (L.map (reopen x.id c.count), [restsE x.id x.price c.count])
        else (without x.id L ++ [{ x with price := c.price, opn := c.count }], [goneO x, takenE x.id c.count, restsE x.id c.price c.count]) := by
  cases hf : findO L c.id with
  | none => simp [restO, hf, ofT, gTurn, hok]
  | some i =>
    have hi := findO_lt' hf
    have hid := findO_idx hf hi
    have e1 := erase_without hn hi
    have e2 := @set_reopen c.count L hn i hi
    have hr : restO L c.id = some L[i] := by simp [restO, hf, List.getElem?_eq_getElem hi]
    have hm := List.getElem_mem hi
    have hgt : gTurn L c = gAt L c i L[i] := by simp [gTurn, hok, hf, List.getElem?_eq_getElem hi]
    rw [hr]
    generalize L[i] = x at *
    by_cases ht : x.trader = c.trader
    · rw [show ofT c.trader (some x) = some x by simp [ofT, ht]]
      refine ⟨hm, hid, ht, ?_⟩
      rw [hgt]
      unfold gAt
      rw [if_neg (by simpa using ht), e1, e2]
      rfl
    · rw [show ofT c.trader (some x) = none by simp [ofT, ht]]
      simp only
      rw [hgt]
      unfold gAt
      rw [if_pos ht]
theorem orderR_rest (L : List Ord) (id : Int) : orderR L id = match restO L id with
    | some x => .tuple #[x.val, .int .i64 0]
    | none => .tuple #[zOrd, .int .i64 4] := by
  unfold orderR restO
  cases hf : findO L id with
  | none => rfl
  | some i =>
    have hi := findO_lt' hf
    simp [List.getElem?_eq_getElem hi]

theorem getO_congr {M M' : Nat → List Ord} (h : ∀ j, j < 2 → M j = M' j) (id : Int) : getO M id = getO M' id := by
  unfold getO
  rw [h 0 (by omega), h 1 (by omega)]
/-- The order with a number is the same. -/
theorem Sim.get {st : St} {s : Ref} (h : Sim st s) (hg : Good s) (id : Int) : getAt st id = restO s.L id := by
  cases hr : getAt st id with
  | none =>
    refine (rest_none hg fun j hj => ?_).symm
    rw [← getO_congr (h.M j hj)]
    exact getTo_none hr j hj
  | some x =>
    obtain ⟨k, hk, hx⟩ := getTo_some hr
    rw [getO_congr (h.M k hk)] at hx
    obtain ⟨h1, h2, _⟩ := getO_some hx
    exact (restO_mem hg.ids h1 h2).symm
theorem Sim.getOf {st : St} {s : Ref} (h : Sim st s) (hg : Good s) (t id : Int) : getOf st t id = ofT t (restO s.L id) := by
  unfold Go.Proofs.YtigpgnjgmaoejaaGreat.getOf
  rw [h.get hg]
  cases restO s.L id with
  | none => rfl
  | some x => simp [ofT]
theorem book_of {b : Int} (h : 1 ≤ b ∧ b ≤ 8) : bk b < 8 ∧ b = ((bk b : Nat) : Int) + 1 := by unfold bk; omega
theorem Sim.removed {st : St} {s : Ref} (h : Sim st s) (hn : (s.L.map Ord.id).Nodup) {x : Ord} (hx : x ∈ s.L) (hb : 1 ≤ x.book ∧ x.book ≤ 8) : Sim (st.rem (bk x.book) x.id) { s with L := without x.id s.L } := by
  obtain ⟨h8, hbk⟩ := book_of hb
  refine ⟨fun k hk j hj => ?_, h.tr, h.td, h.vol⟩
  rw [inBook_without]
  by_cases e : k = bk x.book
  · subst e
    simp only [St.rem, upd_self]
    rw [h.M _ h8 j hj]
  · simp only [St.rem, upd_other e]
    rw [h.M k hk j hj, without_self (notin_book hn hx (by omega))]
theorem Sim.reopened {st : St} {s : Ref} (h : Sim st s) (hn : (s.L.map Ord.id).Nodup) {x : Ord} (hx : x ∈ s.L) (hb : 1 ≤ x.book ∧ x.book ≤ 8) (c : Int) : Sim (st.reop (bk x.book) x.id c) { s with L := s.L.map (reopen x.id c) } := by
  obtain ⟨h8, hbk⟩ := book_of hb
  refine ⟨fun k hk j hj => ?_, h.tr, h.td, h.vol⟩
  rw [inBook_reopen]
  by_cases e : k = bk x.book
  · subst e
    simp only [St.reop, upd_self]
    rw [h.M _ h8 j hj]
  · simp only [St.reop, upd_other e]
    rw [h.M k hk j hj, map_reopen_self (notin_book hn hx (by omega))]
theorem cTo_all {L : List Ord} (hb : ∀ o ∈ L, (1 ≤ o.book ∧ o.book ≤ 8) ∧ (o.side = 1 ∨ o.side = 2)) (t : Int) : ∀ k : Nat, cTo L t k = (L.filter fun o => !(decide (o.book ≤ (k : Int)) && isOf t o), ((List.range k).flatMap fun i => (inBook L i 0).filter (isOf t) ++ (inBook L i 1).filter (isOf t)).map goneO)
  | 0 => by
    refine Prod.ext ?_ rfl
    refine (List.filter_eq_self.2 fun o ho => ?_).symm
    have := hb o ho
    have hd : decide (o.book ≤ ((0 : Nat) : Int)) = false := by rw [decide_eq_false_iff_not]; omega
    rw [hd]
    rfl
  | k + 1 => by
    show cBook _ t (cTo L t k) = _
    rw [cTo_all hb t k, cBook_side]
    refine Prod.ext ?_ ?_
    · simp only
      rw [List.filter_filter]
      refine List.filter_congr fun o ho => ?_
      have := hb o ho
      have h12 : (o.side == 1 || o.side == 2) = true := by simpa using this.2
      rw [h12, Bool.and_true]
      by_cases e : o.book = ((k + 1 : Nat) : Int)
      · have e1 : (o.book == ((k + 1 : Nat) : Int)) = true := by simpa using e
        have e2 : decide (o.book ≤ ((k + 1 : Nat) : Int)) = true := by simp; omega
        have e3 : decide (o.book ≤ (k : Int)) = false := by simp; omega
        rw [e1, e2, e3]
        simp
      · have e1 : (o.book == ((k + 1 : Nat) : Int)) = false := by simpa using e
        have e2 : decide (o.book ≤ ((k + 1 : Nat) : Int)) = decide (o.book ≤ (k : Int)) := by
          rw [Bool.eq_iff_iff]; simp only [decide_eq_true_eq]; omega
        rw [e1, e2]
        simp
    · have hs : ∀ sd : Int, ((sideOf (((k + 1 : Nat)) : Int) sd L).filter (fun o => !(decide (o.book ≤ (k : Int)) && isOf t o))).filter (isOf t) = (sideOf ((k : Int) + 1) sd L).filter (isOf t) := fun sd => by
        rw [List.filter_filter]
        refine List.filter_congr fun o ho => ?_
        have hi := (mem_sideOf.1 ho).2
        simp only [inSide, Bool.and_eq_true, beq_iff_eq] at hi
        have e3 : decide (o.book ≤ (k : Int)) = false := by rw [hi.1, decide_eq_false_iff_not]; omega
        rw [e3]
        simp
      simp only
      rw [List.range_succ, List.flatMap_append, List.map_append, sideOf_filter, sideOf_filter, hs 1, hs 2]
      simp [inBook]
/-- CancelAll. -/
theorem Sim.dropped {st : St} {s : Ref} (h : Sim st s) (hg : Good s) (t : Int) : Sim (st.dropT t) { s with L := (cTo s.L t 8).1 } ∧ ((List.range 8).flatMap fun k => ofT2 (st.M k) t).map goneO = (cTo s.L t 8).2 := by
  have hb : ∀ o ∈ s.L, (1 ≤ o.book ∧ o.book ≤ 8) ∧ (o.side = 1 ∨ o.side = 2) := fun o ho => ⟨(hg.ord o ho).1, (hg.ord o ho).2.1⟩
  rw [cTo_all hb t 8]
  have e : (s.L.filter fun o => !(decide (o.book ≤ ((8 : Nat) : Int)) && isOf t o)) = s.L.filter fun o => !isOf t o := by
    refine List.filter_congr fun o ho => ?_
    have := hb o ho
    have e2 : decide (o.book ≤ ((8 : Nat) : Int)) = true := by rw [decide_eq_true_eq]; omega
    rw [e2, Bool.true_and]
  refine ⟨⟨fun k hk j hj => ?_, h.tr, h.td, h.vol⟩, ?_⟩
  · simp only
    rw [e]
    unfold inBook
    rw [sideOf_filter]
    show (st.M k j).filter _ = _
    rw [h.M k hk j hj]
    rfl
  · simp only
    congr 1
    rw [List.flatMap_def, List.flatMap_def]
    congr 1
    refine List.map_congr_left fun k hk => ?_
    have hk8 : k < 8 := List.mem_range.1 hk
    unfold ofT2
    rw [h.M k hk8 0 (by omega), h.M k hk8 1 (by omega)]
end Go.Proofs.YtigpgnjgmaoejaaGreat

/- The program's pit keeps PitLaw in books that gather: what Do and the questions come to is what the document's list comes to. No condition besides PitLaw's own. -/
namespace Go.Proofs.YtigpgnjgmaoejaaGreat
open Go.RowKit

theorem putM_congr {x : Ord} {M M' : Nat → List Ord} (h : ∀ j, j < 2 → M j = M' j) : ∀ j, j < 2 → putM x M j = putM x M' j := fun j hj => by
  unfold putM
  rw [h j hj]
theorem enterB_gather {M : Nat → List Ord} {x : Ord} (ho : x.opn ≠ 0) : enterB false M x 1 = (putM x M, 0, [takenE x.id x.opn, restsE x.id x.price x.opn]) := by
  have e : meetB false M x 1 = (M (fj x.side), 0, x.opn, []) := by simp [meetB]
  unfold enterB
  simp only [e]
  rw [if_neg ho, if_pos (by decide), upd_same]
  rfl
/-- An order comes to rest in a book that gathers. -/
theorem Sim.entered {st : St} {s : Ref} (h : Sim st s) (hw : WF st) {x : Ord} (hb : 1 ≤ x.book ∧ x.book ≤ 8) (ht : s.tr (bk x.book + 1) = false) (ho : x.opn ≠ 0) :
    Sim (st.enter (bk x.book) x 1).1 { s with L := s.L ++ [x] } ∧ (st.enter (bk x.book) x 1).2 = [takenE x.id x.opn, restsE x.id x.price x.opn] := by
  obtain ⟨h8, hbk⟩ := book_of hb
  have htr : st.tr (bk x.book) = false := by rw [h.tr _ h8]; exact ht
  have e : enterB (st.tr (bk x.book)) (st.M (bk x.book)) x 1 = (putM x (st.M (bk x.book)), 0, [takenE x.id x.opn, restsE x.id x.price x.opn]) := by rw [htr]; exact enterB_gather ho
  refine ⟨⟨fun k hk j hj => ?_, h.tr, fun k hk => ?_, ?_⟩, ?_⟩
  · simp only [St.enter, e]
    by_cases ek : k = bk x.book
    · subst ek
      rw [upd_self, putM_congr (h.M _ h8) j hj, inBook_snoc]
      unfold putM
      by_cases hs : (j : Int) + 1 = x.side
      · rw [if_pos hs, if_pos ⟨by omega, hs⟩]
      · rw [if_neg hs, if_neg (fun q => hs q.2)]
    · rw [upd_other ek, h.M k hk j hj, inBook_snoc, if_neg (fun q => ek (by omega))]
  · simp only [St.enter, e, Int.add_zero]
    by_cases ek : k = bk x.book
    · subst ek
      rw [upd_self, hw.td _ h8]
      exact h.td _ h8
    · rw [upd_other ek]
      exact h.td k hk
  · simp only [St.enter, e, Int.add_zero]
    rw [hw.vol]
    exact h.vol
  · simp only [St.enter, e]

theorem restO_find {L : List Ord} {id : Int} : (restO L id = none ↔ findO L id = none) := by
  unfold restO
  cases hf : findO L id with
  | none => simp
  | some i =>
    have hi := findO_lt' hf
    simp [List.getElem?_eq_getElem hi]
theorem sim_new {st : St} {s : Ref} (h : Sim st s) (hg : Good s) (hw : WF st) (c : Cmd) : Sim (sNew st c).1 { s with L := (gNew s.L c).1 } ∧ (sNew st c).2 = (gNew s.L c).2 := by
  unfold sNew gNew
  by_cases hok : newOk c = false
  · rw [if_pos hok, if_pos hok]; exact ⟨h, rfl⟩
  · rw [if_neg hok, if_neg hok]
    have hok : newOk c = true := by simpa using hok
    obtain ⟨o1, o2, o3, o4, o5, o6, o7⟩ := newOk_all hok
    rw [h.get hg]
    cases hf : findO s.L c.id with
    | some i =>
      have hi := findO_lt' hf
      have : restO s.L c.id = some s.L[i] := by simp [restO, hf, List.getElem?_eq_getElem hi]
      rw [this]
      exact ⟨h, rfl⟩
    | none =>
      rw [restO_find.2 hf, if_neg (by simp)]
      obtain ⟨h8, hbk⟩ := book_of o3
      have htr : st.tr (bk c.book) = false := by rw [h.tr _ h8]; exact hg.tr _
      have l0 : (st.M (bk c.book) 0).length = restN s.L c.book 1 := by rw [h.M _ h8 0 (by omega), inBook_len, ← hbk]; rfl
      have l1 : (st.M (bk c.book) 1).length = restN s.L c.book 2 := by rw [h.M _ h8 1 (by omega), inBook_len, ← hbk]; rfl
      by_cases hk : c.kind = 1
      · have hb : barsB (st.tr (bk c.book)) (st.M (bk c.book)) (ordOf c) c.kind = if 200 ≤ restN s.L c.book 1 + restN s.L c.book 2 then 5 else 0 := by
          unfold barsB
          rw [if_neg (fun q => q.2 hk), hk, l0, l1]
          simp [mismB, waitsB]
        rw [hb]
        simp only [hk, ne_eq, not_true_eq_false, if_false]
        by_cases hc : 200 ≤ restN s.L c.book 1 + restN s.L c.book 2
        · simp only [hc, if_true]; exact ⟨h, rfl⟩
        · simp only [hc, if_false, not_true_eq_false]
          have := h.entered hw (x := ordOf c) o3 (hg.tr _) (by show c.count ≠ 0; omega)
          exact this
      · have hb : barsB (st.tr (bk c.book)) (st.M (bk c.book)) (ordOf c) c.kind = 6 := by
          unfold barsB
          rw [if_pos ⟨htr, hk⟩]
        rw [hb]
        simp only [hk, ne_eq, not_false_eq_true, if_true]
        exact ⟨h, rfl⟩

theorem turnOk_cancel {c : Cmd} (h : c.what ≠ 3) : turnOk c = (inB c.id 1 1000000000 && inB c.trader 1 1000) := by
  simp [turnOk, h]
theorem turnOk_change {c : Cmd} (h : c.what = 3) : turnOk c = chOk c := by
  simp [turnOk, chOk, h]
theorem gTurn_bad {L : List Ord} {c : Cmd} (h : turnOk c = false) : gTurn L c = (L, [refusedE c.id 2]) := by simp [gTurn, h]
theorem sim_cancel {st : St} {s : Ref} (h : Sim st s) (hg : Good s) (c : Cmd) (hc : c.what ≠ 3) : Sim (sCancel st c).1 { s with L := (gTurn s.L c).1 } ∧ (sCancel st c).2 = (gTurn s.L c).2 := by
  unfold sCancel
  rw [← turnOk_cancel hc]
  by_cases hok : turnOk c = false
  · rw [if_pos hok, gTurn_bad hok]; exact ⟨h, rfl⟩
  · rw [if_neg hok, h.getOf hg]
    have := gTurn_of hg.ids (c := c) (by simpa using hok)
    cases hr : ofT c.trader (restO s.L c.id) with
    | none => rw [hr] at this; rw [this]; exact ⟨h, rfl⟩
    | some x =>
      rw [hr] at this
      obtain ⟨hx, _, _, e⟩ := this
      rw [e, if_pos hc]
      exact ⟨h.removed hg.ids hx (hg.ord x hx).1, rfl⟩
theorem sim_change {st : St} {s : Ref} (h : Sim st s) (hg : Good s) (hw : WF st) (c : Cmd) (hc : c.what = 3) : Sim (sChange st c).1 { s with L := (gTurn s.L c).1 } ∧ (sChange st c).2 = (gTurn s.L c).2 := by
  unfold sChange
  rw [← turnOk_change hc]
  by_cases hok : turnOk c = false
  · rw [if_pos hok, gTurn_bad hok]; exact ⟨h, rfl⟩
  · have hok2 : chOk c = true := by rw [← turnOk_change hc]; simpa using hok
    rw [if_neg hok, h.getOf hg]
    have := gTurn_of hg.ids (c := c) (by simpa using hok)
    cases hr : ofT c.trader (restO s.L c.id) with
    | none => rw [hr] at this; rw [this]; exact ⟨h, rfl⟩
    | some x =>
      rw [hr] at this
      obtain ⟨hx, _, _, e⟩ := this
      rw [e, if_neg (fun q => q hc)]
      simp only
      by_cases hp : c.price = x.price ∧ c.count ≤ x.opn
      · rw [if_pos hp, if_pos hp]
        exact ⟨h.reopened hg.ids hx (hg.ord x hx).1 _, rfl⟩
      · rw [if_neg hp, if_neg hp]
        have hcn := (chOk_all hok2).2
        have h1 := h.removed hg.ids hx (hg.ord x hx).1
        have h2 := h1.entered (rem_keeps hw _ _).wf (x := { x with price := c.price, opn := c.count }) (hg.ord x hx).1 (hg.tr _) (by show c.count ≠ 0; omega)
        refine ⟨h2.1, ?_⟩
        show goneO x :: _ = _
        have e2 : ((st.rem (bk x.book) x.id).enter (bk x.book) { x with price := c.price, opn := c.count } 1).2 = _ := h2.2
        rw [e2]
theorem sim_do {st : St} {s : Ref} (h : Sim st s) (hg : Good s) (hw : WF st) (c : Cmd) (hc : c.what ≤ 4) : Sim (sDo st c).1 { s with L := (gDo s.L c).1 } ∧ (sDo st c).2 = (gDo s.L c).2 := by
  unfold sDo gDo
  by_cases h1 : c.what = 1
  · rw [if_pos h1, if_pos h1]; exact sim_new h hg hw c
  · rw [if_neg h1, if_neg h1]
    by_cases h2 : c.what = 2
    · rw [if_pos h2, if_pos (.inl h2)]; exact sim_cancel h hg c (by omega)
    · rw [if_neg h2]
      by_cases h3 : c.what = 3
      · rw [if_pos h3, if_pos (.inr h3)]; exact sim_change h hg hw c h3
      · have h23 : ¬ (c.what = 2 ∨ c.what = 3) := fun q => q.elim h2 h3
        rw [if_neg h3, if_neg h23]
        by_cases h4 : c.what = 4
        · rw [if_pos h4, if_pos h4]
          unfold sCancelAll
          by_cases hb : inB c.trader 1 1000 = true
          · rw [if_neg (by rw [hb]; decide), if_pos hb]
            exact h.dropped hg c.trader
          · rw [if_pos (by simpa using hb), if_neg hb]
            exact ⟨h, rfl⟩
        · rw [if_neg h4, if_neg h4, if_neg (by omega), if_neg (by omega)]
          exact ⟨h, rfl⟩

/-- The program's pit, as PitLaw asks for it. -/
def PRep (w : World) (bx : Nat) (F : Nat → Prop) (s : Ref) : Prop := ∃ bb v ro st, PitAt w bx bb v ro st ∧ F = PS bx bb v ∧ WF st ∧ Sim st s

theorem nil_sim : Sim stNil (refNil []) := ⟨fun _ _ _ _ => rfl, fun _ _ => rfl, fun _ _ => rfl, by decide +kernel⟩
theorem Sim.levels {st : St} {s : Ref} (h : Sim st s) {b sd : Int} (hb : 1 ≤ b ∧ b ≤ 8) (hsd : sd = 1 ∨ sd = 2) : (st.M (bk b) (sj sd)).foldl addLev [] = levelsO s.L b sd := by
  obtain ⟨h8, hbk⟩ := book_of hb
  rw [levelsO_side, h.M _ h8 _ (sj_lt sd)]
  unfold inBook
  rw [← hbk]
  rcases hsd with rfl | rfl <;> rfl
theorem Sim.order {st : St} {s : Ref} (h : Sim st s) (hg : Good s) (id : Int) : orderS (getAt st id) = orderR s.L id := by
  rw [h.get hg, orderR_rest]
  cases restO s.L id <;> rfl
theorem Sim.look {st : St} {s : Ref} (h : Sim st s) (b : Int) : lookS st b = lookR s b := by
  unfold lookS lookR
  by_cases hb : inB b 1 8 = true
  · obtain ⟨h8, hbk⟩ := book_of (inB_true' hb)
    have hn : b.toNat = bk b + 1 := by omega
    rw [if_pos hb, if_pos hb, h.tr _ h8, h.td _ h8, h.M _ h8 0 (by omega), h.M _ h8 1 (by omega), inBook_len, inBook_len, ← hbk, hn]
    rfl
  · rw [if_neg hb, if_neg hb]
theorem vol_none {s : Ref} (hg : Good s) : ∀ k, volTo s.td k = 0
  | 0 => rfl
  | k + 1 => by rw [volTo, vol_none hg k, hg.td]; rfl

theorem pit_law : PitLaw PRep where
  fr := by
    rintro S w w' bx F s ⟨bb, v, ro, st, h, rfl, hw, hs⟩ hf hS
    exact ⟨bb, v, ro, st, h.fr hf hS, rfl, hw, hs⟩
  lt := by
    rintro w bx F s ⟨bb, v, ro, st, h, rfl, hw, hs⟩ k hk
    exact h.lt k hk
  new_ := fun w => (pNew_any w).mono fun e w' ⟨bb, v, ro, he, hp, hf, hk⟩ => ⟨w.heap.size, PS w.heap.size bb v, he, ⟨bb, v, ro, stNil, hp, rfl, nil_wf, nil_sim⟩, hf, hk⟩
  do_ := by
    rintro w bx F s c ⟨bb, v, ro, st, h, rfl, hw, hs⟩ hg hwh
    obtain ⟨h1, h2⟩ := sim_do hs hg hw c hwh
    exact (pDo_any bx bb v ro st c w h hw).mono fun e w' ⟨r, v', ro', he, ht⟩ => ⟨r, PS bx bb v', he, ⟨bb, v', ro', _, ht.to.pit, rfl, sDo_wf hw c, h1⟩, ht.to.fr, ht.to.new, by rw [← h2]; exact ht.evs, ht.own⟩
  depthBad := by
    rintro w bx F s b sd most _ _ hbad
    exact pDepth_bad bx b sd most w hbad
  depth_ := by
    rintro w bx F s b sd most ⟨bb, v, ro, st, h, rfl, hw, hs⟩ hg hb hsd
    have hb8 := inB_true' hb
    have := pDepth_any bx bb v ro st b sd most w h (fun j hj o ho => by have := (hw.book _ (book_of hb8).1).opns hj o ho; omega) hb hsd
    rw [hs.levels hb8 hsd] at this
    exact this
  order_ := by
    rintro w bx F s id ⟨bb, v, ro, st, h, rfl, hw, hs⟩ hg
    rw [← hs.order hg]
    exact pOrder_any bx bb v ro st id w h
  look_ := by
    rintro w bx F s b ⟨bb, v, ro, st, h, rfl, hw, hs⟩ _
    rw [← hs.look]
    exact pLook_any bx bb v ro st b w h
  volume_ := by
    rintro w bx F s ⟨bb, v, ro, st, h, rfl, hw, hs⟩ hg
    have e : st.vol = 0 := by rw [hs.vol, vol_none hg]; decide +kernel
    exact (pVolume_any bx bb v ro st w h).mono fun e' w' ⟨he, hw'⟩ => ⟨by rw [he, e], hw' ▸ Fr.refl _ _⟩
end Go.Proofs.YtigpgnjgmaoejaaGreat
