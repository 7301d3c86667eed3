/- Plain mathematics: the program's books (St) and the document's list (Ref) hold the same (Sim); what commands do to both. Conditions: the pit is good. -/
import Derived.Test.YtigpgnjgmaoejaaGreatMarts
import Derived.Test.YtigpgnjgmaoejaaGreatDoD
import Derived.Test.YtigpgnjgmaoejaaGreatTdAC
import Derived.Test.YtigpgnjgmaoejaaGreatOpP
namespace Go.Proofs.YtigpgnjgmaoejaaGreat

/-- What rests in the book at a place. -/
def inBook (L : List Ord) (k : Nat) : Nat → List Ord := fun j => sideOf ((k : Int) + 1) ((j : Int) + 1) L
theorem inBook_len (L : List Ord) (k j : Nat) : (inBook L k j).length = restN L ((k : Int) + 1) ((j : Int) + 1) := sideOf_len _ _ _
/-- Both hold the same. -/
structure Sim (st : St) (s : Ref) : Prop where
  M : ∀ k, k < 8 → ∀ j, j < 2 → st.M k j = inBook s.L k j
  tr : ∀ k, k < 8 → st.tr k = s.tr (k + 1)
  td : ∀ k, k < 8 → st.td k = s.td (k + 1)
  vol : st.vol = wrp (volTo s.td 8)

/-- The order with a number. -/
def restO (L : List Ord) (id : Int) : Option Ord := (findO L id).bind fun i => L[i]?

theorem restO_mem {L : List Ord} {id : Int} (h : (L.map Ord.id).Nodup) {x : Ord} (hx : x ∈ L) (e : x.id = id) : restO L id = some x := by
  cases hf : findO L id with
  | none => exact absurd (List.mem_map_of_mem (f := Ord.id) hx) (by rw [e]; exact findO_notin hf)
  | some i =>
    have hi := findO_lt' hf
    have h1 := findO_idx hf hi
    have h2 : L[i] = x := id_inj h (List.getElem_mem hi) hx (by rw [h1, e])
    simp [restO, hf, List.getElem?_eq_getElem hi, h2]
theorem restO_none {L : List Ord} {id : Int} (h : ∀ o ∈ L, o.id ≠ id) : restO L id = none := by
  have : findO L id = none := by
    unfold findO
    rw [List.findIdx?_eq_none_iff]
    intro o ho
    simpa using h o ho
  simp [restO, this]
theorem restO_some {L : List Ord} {id : Int} {x : Ord} (h : restO L id = some x) : x ∈ L ∧ x.id = id := by
  unfold restO at h
  cases hf : findO L id with
  | none => rw [hf] at h; cases h
  | some i =>
    rw [hf] at h
    have hi := findO_lt' hf
    simp only [Option.bind_some, List.getElem?_eq_getElem hi, Option.some.injEq] at h
    subst h
    exact ⟨List.getElem_mem hi, findO_idx hf hi⟩

theorem getO_some {L : List Ord} {k : Nat} {id : Int} {x : Ord} (h : getO (inBook L k) id = some x) : x ∈ L ∧ x.id = id ∧ x.book = (k : Int) + 1 := by
  have hm : ∀ j, j < 2 → ∀ i (hi : i < (inBook L k j).length), findO (inBook L k j) id = some i → (inBook L k j)[i] ∈ L ∧ (inBook L k j)[i].id = id ∧ (inBook L k j)[i].book = (k : Int) + 1 := fun j _ i hi hf => by
    have h1 := mem_sideOf.1 (List.getElem_mem hi)
    have h2 := h1.2
    simp only [inSide, Bool.and_eq_true, beq_iff_eq] at h2
    exact ⟨h1.1, findO_idx hf hi, h2.1⟩
  rcases findR_cases 0 (inBook L k) id with ⟨i, hi, hf, hg, _⟩ | ⟨_, i, hi, hf, hg, _⟩ | ⟨_, _, hg, _⟩
  · rw [hg] at h; cases h; exact hm 0 (by omega) i hi hf
  · rw [hg] at h; cases h; exact hm 1 (by omega) i hi hf
  · rw [hg] at h; cases h
theorem getO_none {L : List Ord} {k : Nat} {id : Int} (h : getO (inBook L k) id = none) : ∀ o ∈ L, o.book = (k : Int) + 1 → (o.side = 1 ∨ o.side = 2) → o.id ≠ id := by
  intro o ho hb hs e
  rcases findR_cases 0 (inBook L k) id with ⟨i, hi, hf, hg, _⟩ | ⟨_, i, hi, hf, hg, _⟩ | ⟨h0, h1, hg, _⟩
  · rw [hg] at h; cases h
  · rw [hg] at h; cases h
  · rcases hs with hs | hs
    · exact findO_notin h0 (e ▸ List.mem_map_of_mem (mem_sideOf.2 ⟨ho, by simp [inSide, hb, hs]⟩))
    · exact findO_notin h1 (e ▸ List.mem_map_of_mem (mem_sideOf.2 ⟨ho, by simp [inSide, hb, hs]⟩))

theorem rest_none {s : Ref} (hg : Good s) {id : Int} (h : ∀ j, j < 8 → getO (inBook s.L j) id = none) : restO s.L id = none := by
  refine restO_none fun o ho => ?_
  obtain ⟨hb, hs, _⟩ := hg.ord o ho
  obtain ⟨n, hn⟩ := Int.eq_ofNat_of_zero_le (by omega : 0 ≤ o.book - 1)
  exact getO_none (h n (by omega)) o ho (by omega) hs

theorem inBook_snoc {L : List Ord} {x : Ord} {k j : Nat} : inBook (L ++ [x]) k j = if (k : Int) + 1 = x.book ∧ (j : Int) + 1 = x.side then putO x.side x (inBook L k j) else inBook L k j := by
  unfold inBook
  rw [sideOf_snoc]
  by_cases hb : (k : Int) + 1 = x.book <;> by_cases hs : (j : Int) + 1 = x.side
  · rw [if_pos (by simp [inSide, hb, hs]), if_pos ⟨hb, hs⟩, insB_place (srt_sideOf _ _ _), hs]
    simp [putO]
  · rw [if_neg (by simp [inSide]; intro _ e; exact hs e.symm), if_neg (fun h => hs h.2)]
  · rw [if_neg (by simp [inSide]; intro e; exact absurd e.symm hb), if_neg (fun h => hb h.1)]
  · rw [if_neg (by simp [inSide]; intro e; exact absurd e.symm hb), if_neg (fun h => hb h.1)]
theorem inBook_uniq {L : List Ord} (h : (L.map Ord.id).Nodup) (k : Nat) : Uniq (inBook L k) := by
  refine List.nodup_append.2 ⟨sideOf_nodup h, sideOf_nodup h, fun a ha b hb e => ?_⟩
  obtain ⟨x, hx, rfl⟩ := List.mem_map.1 ha
  obtain ⟨y, hy, rfl⟩ := List.mem_map.1 hb
  obtain ⟨hx1, hx2⟩ := mem_sideOf.1 hx
  obtain ⟨hy1, hy2⟩ := mem_sideOf.1 hy
  have := id_inj h hx1 hy1 e
  subst this
  simp only [inSide, Bool.and_eq_true, beq_iff_eq] at hx2 hy2
  have h1 := hx2.2
  have h2 := hy2.2
  rw [h1] at h2
  exact absurd h2 (by decide)
theorem inBook_without (L : List Ord) (k j : Nat) (id : Int) : inBook (without id L) k j = without id (inBook L k j) := side_without _ _ _ _
theorem inBook_reopen (L : List Ord) (k j : Nat) (id c : Int) : inBook (L.map (reopen id c)) k j = (inBook L k j).map (reopen id c) := side_reopen _ _ _ _ _
theorem notin_book {L : List Ord} (h : (L.map Ord.id).Nodup) {x : Ord} (hx : x ∈ L) {i j : Nat} (hb : x.book ≠ (i : Int) + 1) : x.id ∉ (inBook L i j).map Ord.id := fun hm => by
  obtain ⟨y, hy, e⟩ := List.mem_map.1 hm
  obtain ⟨hy1, hy2⟩ := mem_sideOf.1 hy
  have := id_inj h hy1 hx e
  subst this
  simp only [inSide, Bool.and_eq_true, beq_iff_eq] at hy2
  exact hb hy2.1
def ofT (t : Int) : Option Ord → Option Ord
  | some x => if x.trader = t then some x else none
  | none => none

/-- What Cancel and Change come to, by the order that is found. -/
theorem tTurn_of {s : Ref} (hn : (s.L.map Ord.id).Nodup) {c : Cmd} (hok : turnOk c = true) :
    match ofT c.trader (restO s.L c.id) with
    | none => tTurn s c = (s, [refusedE c.id 4])
    | some x => x ∈ s.L ∧ x.id = c.id ∧ x.trader = c.trader ∧ (∃ i, ∃ hi : i < s.L.length, s.L[i] = x ∧ s.L.eraseIdx i = without x.id s.L) ∧ tTurn s c =
        if c.what ≠ 3 then ({ s with L := without x.id s.L }, [goneO x])
        else if c.price = x.price ∧ c.count ≤ x.opn then ({ s with L := s.L.map (reopen x.id c.count) }, [restsE x.id x.price c.count])
        else ((tTakes { s with L := without x.id s.L } { x with price := c.price, opn := c.count } 1).1, goneO x :: (tTakes { s with L := without x.id s.L } { x with price := c.price, opn := c.count } 1).2) := by
  cases hf : findO s.L c.id with
  | none => simp [restO, hf, ofT, tTurn, hok]
  | some i =>
    have hi := findO_lt' hf
    have hid := findO_idx hf hi
    have e1 := erase_without hn hi
    have e2 := @set_reopen c.count s.L hn i hi
    have hr : restO s.L c.id = some s.L[i] := by simp [restO, hf, List.getElem?_eq_getElem hi]
    have hm := List.getElem_mem hi
    have hgt : tTurn s c = tAt s c i s.L[i] := by simp [tTurn, hok, hf, List.getElem?_eq_getElem hi]
    have hx : ∃ x, s.L[i] = x := ⟨_, rfl⟩
    obtain ⟨x, hx⟩ := hx
    rw [hr]
    rw [hx] at hid e1 e2 hm hgt ⊢
    by_cases ht : x.trader = c.trader
    · rw [show ofT c.trader (some x) = some x by simp [ofT, ht]]
      refine ⟨hm, hid, ht, ⟨i, hi, hx, e1⟩, ?_⟩
      rw [hgt]
      unfold tAt
      rw [if_neg (by simpa using ht), e1, e2]
      rfl
    · rw [show ofT c.trader (some x) = none by simp [ofT, ht]]
      simp only
      rw [hgt]
      unfold tAt
      rw [if_pos ht]
theorem orderR_rest (L : List Ord) (id : Int) : orderR L id = match restO L id with
    | some x => .tuple #[x.val, .int .i64 0]
    | none => .tuple #[zOrd, .int .i64 4] := by
  unfold orderR restO
  cases hf : findO L id with
  | none => rfl
  | some i =>
    have hi := findO_lt' hf
    simp [List.getElem?_eq_getElem hi]

theorem getO_congr {M M' : Nat → List Ord} (h : ∀ j, j < 2 → M j = M' j) (id : Int) : getO M id = getO M' id := by
  unfold getO
  rw [h 0 (by omega), h 1 (by omega)]
/-- The order with a number is the same. -/
theorem Sim.get {st : St} {s : Ref} (h : Sim st s) (hg : Good s) (id : Int) : getAt st id = restO s.L id := by
  cases hr : getAt st id with
  | none =>
    refine (rest_none hg fun j hj => ?_).symm
    rw [← getO_congr (h.M j hj)]
    exact getTo_none hr j hj
  | some x =>
    obtain ⟨k, hk, hx⟩ := getTo_some hr
    rw [getO_congr (h.M k hk)] at hx
    obtain ⟨h1, h2, _⟩ := getO_some hx
    exact (restO_mem hg.ids h1 h2).symm
theorem Sim.getOf {st : St} {s : Ref} (h : Sim st s) (hg : Good s) (t id : Int) : getOf st t id = ofT t (restO s.L id) := by
  unfold Go.Proofs.YtigpgnjgmaoejaaGreat.getOf
  rw [h.get hg]
  cases restO s.L id with
  | none => rfl
  | some x => simp [ofT]
theorem book_of {b : Int} (h : 1 ≤ b ∧ b ≤ 8) : bk b < 8 ∧ b = ((bk b : Nat) : Int) + 1 := by unfold bk; omega
theorem Sim.removed {st : St} {s : Ref} (h : Sim st s) (hn : (s.L.map Ord.id).Nodup) {x : Ord} (hx : x ∈ s.L) (hb : 1 ≤ x.book ∧ x.book ≤ 8) : Sim (st.rem (bk x.book) x.id) { s with L := without x.id s.L } := by
  obtain ⟨h8, hbk⟩ := book_of hb
  refine ⟨fun k hk j hj => ?_, h.tr, h.td, h.vol⟩
  rw [inBook_without]
  by_cases e : k = bk x.book
  · subst e
    simp only [St.rem, upd_self]
    rw [h.M _ h8 j hj]
  · simp only [St.rem, upd_other e]
    rw [h.M k hk j hj, without_self (notin_book hn hx (by omega))]
theorem Sim.reopened {st : St} {s : Ref} (h : Sim st s) (hn : (s.L.map Ord.id).Nodup) {x : Ord} (hx : x ∈ s.L) (hb : 1 ≤ x.book ∧ x.book ≤ 8) (c : Int) : Sim (st.reop (bk x.book) x.id c) { s with L := s.L.map (reopen x.id c) } := by
  obtain ⟨h8, hbk⟩ := book_of hb
  refine ⟨fun k hk j hj => ?_, h.tr, h.td, h.vol⟩
  rw [inBook_reopen]
  by_cases e : k = bk x.book
  · subst e
    simp only [St.reop, upd_self]
    rw [h.M _ h8 j hj]
  · simp only [St.reop, upd_other e]
    rw [h.M k hk j hj, map_reopen_self (notin_book hn hx (by omega))]
theorem cTo_all {L : List Ord} (hb : ∀ o ∈ L, (1 ≤ o.book ∧ o.book ≤ 8) ∧ (o.side = 1 ∨ o.side = 2)) (t : Int) : ∀ k : Nat, cTo L t k = (L.filter fun o => !(decide (o.book ≤ (k : Int)) && isOf t o), ((List.range k).flatMap fun i => (inBook L i 0).filter (isOf t) ++ (inBook L i 1).filter (isOf t)).map goneO)
  | 0 => by
    refine Prod.ext ?_ rfl
    refine (List.filter_eq_self.2 fun o ho => ?_).symm
    have := hb o ho
    have hd : decide (o.book ≤ ((0 : Nat) : Int)) = false := by rw [decide_eq_false_iff_not]; omega
    rw [hd]
    rfl
  | k + 1 => by
    show cBook _ t (cTo L t k) = _
    rw [cTo_all hb t k, cBook_side]
    refine Prod.ext ?_ ?_
    · simp only
      rw [List.filter_filter]
      refine List.filter_congr fun o ho => ?_
      have := hb o ho
      have h12 : (o.side == 1 || o.side == 2) = true := by simpa using this.2
      rw [h12, Bool.and_true]
      by_cases e : o.book = ((k + 1 : Nat) : Int)
      · have e1 : (o.book == ((k + 1 : Nat) : Int)) = true := by simpa using e
        have e2 : decide (o.book ≤ ((k + 1 : Nat) : Int)) = true := by simp; omega
        have e3 : decide (o.book ≤ (k : Int)) = false := by simp; omega
        rw [e1, e2, e3]
        simp
      · have e1 : (o.book == ((k + 1 : Nat) : Int)) = false := by simpa using e
        have e2 : decide (o.book ≤ ((k + 1 : Nat) : Int)) = decide (o.book ≤ (k : Int)) := by
          rw [Bool.eq_iff_iff]; simp only [decide_eq_true_eq]; omega
        rw [e1, e2]
        simp
    · have hs : ∀ sd : Int, ((sideOf (((k + 1 : Nat)) : Int) sd L).filter (fun o => !(decide (o.book ≤ (k : Int)) && isOf t o))).filter (isOf t) = (sideOf ((k : Int) + 1) sd L).filter (isOf t) := fun sd => by
        rw [List.filter_filter]
        refine List.filter_congr fun o ho => ?_
        have hi := (mem_sideOf.1 ho).2
        simp only [inSide, Bool.and_eq_true, beq_iff_eq] at hi
        have e3 : decide (o.book ≤ (k : Int)) = false := by rw [hi.1, decide_eq_false_iff_not]; omega
        rw [e3]
        simp
      simp only
      rw [List.range_succ, List.flatMap_append, List.map_append, sideOf_filter, sideOf_filter, hs 1, hs 2]
      simp [inBook]
/-- CancelAll. -/
theorem Sim.dropped {st : St} {s : Ref} (h : Sim st s) (hg : Good s) (t : Int) : Sim (st.dropT t) { s with L := (cTo s.L t 8).1 } ∧ ((List.range 8).flatMap fun k => ofT2 (st.M k) t).map goneO = (cTo s.L t 8).2 := by
  have hb : ∀ o ∈ s.L, (1 ≤ o.book ∧ o.book ≤ 8) ∧ (o.side = 1 ∨ o.side = 2) := fun o ho => ⟨(hg.ord o ho).1, (hg.ord o ho).2.1⟩
  rw [cTo_all hb t 8]
  have e : (s.L.filter fun o => !(decide (o.book ≤ ((8 : Nat) : Int)) && isOf t o)) = s.L.filter fun o => !isOf t o := by
    refine List.filter_congr fun o ho => ?_
    have := hb o ho
    have e2 : decide (o.book ≤ ((8 : Nat) : Int)) = true := by rw [decide_eq_true_eq]; omega
    rw [e2, Bool.true_and]
  refine ⟨⟨fun k hk j hj => ?_, h.tr, h.td, h.vol⟩, ?_⟩
  · simp only
    rw [e]
    unfold inBook
    rw [sideOf_filter]
    show (st.M k j).filter _ = _
    rw [h.M k hk j hj]
    rfl
  · simp only
    congr 1
    rw [List.flatMap_def, List.flatMap_def]
    congr 1
    refine List.map_congr_left fun k hk => ?_
    have hk8 : k < 8 := List.mem_range.1 hk
    unfold ofT2
    rw [h.M k hk8 0 (by omega), h.M k hk8 1 (by omega)]
end Go.Proofs.YtigpgnjgmaoejaaGreat

/- Plain mathematics: the price of an opening, by the document's search and by the program's turns, is the same; its trades are the same. Conditions: the pit is good. -/
namespace Go.Proofs.YtigpgnjgmaoejaaGreat

theorem sumO_perm {A B : List Ord} (h : A.Perm B) : sumO A = sumO B := by
  induction h with
  | nil => rfl
  | cons x _ ih => rw [sumO_cons, sumO_cons, ih]
  | swap x y l => simp only [sumO_cons]; omega
  | trans _ _ h1 h2 => exact h1.trans h2
theorem sumO_side (b s : Int) (L : List Ord) : sumO (sideOf b s L) = sumO (L.filter (inSide b s)) := sumO_perm (sideOf_perm b s L)
theorem open_side {L : List Ord} (ht : ∀ o ∈ L, o.trader ≠ 0) (b sd q : Int) : openAtO sd q 0 (sideOf b sd L) = sumO (L.filter fun o => inSide b sd o && !beatsB sd q o.price) := by
  have e : openAtO sd q 0 (sideOf b sd L) = sumO ((sideOf b sd L).filter fun o => !beatsB sd q o.price) := by
    unfold openAtO sumO
    congr 2
    refine List.filter_congr fun o ho => ?_
    have := ht o (mem_sideOf.1 ho).1
    simp [this]
  rw [e, ← sideOf_filter, sumO_side, List.filter_filter]
theorem buyB_open {L : List Ord} (ht : ∀ o ∈ L, o.trader ≠ 0) (b q : Int) : openAtO 1 q 0 (sideOf b 1 L) = buyB L b q := by
  rw [open_side ht]
  unfold buyB sumO
  congr 2
  refine List.filter_congr fun o _ => ?_
  rw [Bool.eq_iff_iff]
  simp [inSide, isBuy, beatsB]
theorem sellB_open {L : List Ord} (ht : ∀ o ∈ L, o.trader ≠ 0) (b q : Int) : openAtO 2 q 0 (sideOf b 2 L) = sellB L b q := by
  rw [open_side ht]
  unfold sellB sumO
  congr 2
  refine List.filter_congr fun o _ => ?_
  rw [Bool.eq_iff_iff]
  simp [inSide, isSell, beatsB]
theorem Good.nobody {s : Ref} (h : Good s) : ∀ o ∈ s.L, o.trader ≠ 0 := fun o ho => by have := (h.ord o ho).2.2.2.2.2; omega
theorem Tn.ext' {a b : Tn} (h1 : a.price = b.price) (h2 : a.vol = b.vol) (h3 : a.rest = b.rest) : a = b := by
  cases a; cases b; simp_all
theorem tnB_at {s : Ref} (h : Good s) (k : Nat) (q : Int) : tnB s.L ((k : Int) + 1) q = tnAt (inBook s.L k) q := by
  have e0 : openAtO 1 q 0 (inBook s.L k 0) = buyB s.L ((k : Int) + 1) q := buyB_open h.nobody _ _
  have e1 : openAtO 2 q 0 (inBook s.L k 1) = sellB s.L ((k : Int) + 1) q := sellB_open h.nobody _ _
  unfold tnAt tnB
  rw [e0, e1]
  generalize buyB s.L ((k : Int) + 1) q = bu
  generalize sellB s.L ((k : Int) + 1) q = se
  unfold leastI
  split <;> split
  all_goals exact Tn.ext' rfl (by first | rfl | (simp only; omega)) (by simp only; omega)

theorem good_bk {s : Ref} (h : Good s) (k : Nat) : BkOk k (inBook s.L k) := by
  refine ⟨fun j hj o ho => ?_, fun j _ => srt_sideOf _ _ _, inBook_uniq h.ids k, ?_⟩
  · obtain ⟨h1, h2⟩ := mem_sideOf.1 ho
    obtain ⟨o1, o2, o3, o4, o5, o6⟩ := h.ord o h1
    simp only [inSide, Bool.and_eq_true, beq_iff_eq] at h2
    exact ⟨⟨o3, o4, o6, o5⟩, h2.1, h2.2⟩
  · rw [inBook_len, inBook_len]
    exact h.cap _

theorem bettB_iff (x y : Tn) : bettB x y = true ↔ BetterT x y := by
  unfold bettB BetterT
  simp only [Bool.or_eq_true, Bool.and_eq_true, decide_eq_true_eq, beq_iff_eq]
theorem bett_irr (x : Tn) : ¬ BetterT x x := by unfold BetterT; omega
theorem bett_trans {x y z : Tn} (h : BetterT x y) (k : BetterT y z) : BetterT x z := by unfold BetterT at *; omega
theorem bett_not {x y z : Tn} (h : ¬ BetterT x y) (k : BetterT z y) : ¬ BetterT x z := fun q => h (bett_trans q k)
/-- What the document's search finds. -/
structure PFind (L : List Ord) (b : Int) (a : Tn) (C : List Int) (r : Tn) : Prop where
  is : r = a ∨ ∃ q ∈ C, q ≤ 1000000 ∧ 0 < (tnB L b q).vol ∧ r = tnB L b q
  best : ∀ q ∈ C, q ≤ 1000000 → 0 < (tnB L b q).vol → ¬ BetterT (tnB L b q) r
  mono : ¬ BetterT a r
theorem fold_find {L : List Ord} {b : Int} : ∀ {C : List Int} {a : Tn}, PFind L b a C (C.foldl (pStep L b) a)
  | [], a => ⟨.inl rfl, fun _ h => (by cases h), bett_irr a⟩
  | q :: C, a => by
    rw [List.foldl_cons]
    have ih := fold_find (L := L) (b := b) (C := C) (a := pStep L b a q)
    generalize C.foldl (pStep L b) (pStep L b a q) = r at *
    have hcase : pStep L b a q = a ∧ (q ≤ 1000000 → 0 < (tnB L b q).vol → ¬ BetterT (tnB L b q) a) ∨ pStep L b a q = tnB L b q ∧ q ≤ 1000000 ∧ 0 < (tnB L b q).vol ∧ BetterT (tnB L b q) a := by
      unfold pStep
      split
      · exact .inl ⟨rfl, fun h => by omega⟩
      · split
        · rename_i h1 h2
          exact .inr ⟨rfl, by omega, h2.1, (bettB_iff _ _).1 h2.2⟩
        · rename_i h1 h2
          exact .inl ⟨rfl, fun _ hv hb => h2 ⟨hv, (bettB_iff _ _).2 hb⟩⟩
    rcases hcase with ⟨e, hn⟩ | ⟨e, h1, h2, h3⟩
    · rw [e] at ih
      refine ⟨ih.is.imp id (fun ⟨p, hp, hr⟩ => ⟨p, List.mem_cons_of_mem _ hp, hr⟩), fun p hp hl hv => ?_, ih.mono⟩
      rcases List.mem_cons.1 hp with rfl | hp
      · have hna := hn hl hv
        intro hb
        rcases ih.is with e2 | ⟨p2, hp2, l2, v2, e2⟩
        · rw [e2] at hb; exact hna hb
        · have hm := ih.mono
          unfold BetterT at *
          omega
      · exact ih.best p hp hl hv
    · rw [e] at ih
      refine ⟨.inr ?_, fun p hp hl hv => ?_, fun hb => ih.mono (bett_trans h3 hb)⟩
      · rcases ih.is with e2 | ⟨p, hp, hr⟩
        · exact ⟨q, List.mem_cons_self, h1, h2, e2⟩
        · exact ⟨p, List.mem_cons_of_mem _ hp, hr⟩
      · rcases List.mem_cons.1 hp with rfl | hp
        · exact ih.mono
        · exact ih.best p hp hl hv

theorem cands_mem {L : List Ord} {o : Ord} (h : o ∈ L) : o.price ∈ cands L ∧ o.price + 1 ∈ cands L := by
  unfold cands
  refine ⟨List.mem_cons_of_mem _ (List.mem_cons_of_mem _ (List.mem_flatMap.2 ⟨o, h, by simp⟩)), List.mem_cons_of_mem _ (List.mem_cons_of_mem _ (List.mem_flatMap.2 ⟨o, h, by simp⟩))⟩
theorem turns_cands {L : List Ord} {k : Nat} {q : Int} (h : q ∈ turnsL (inBook L k)) : q ∈ cands L := by
  unfold turnsL brks at h
  rcases List.mem_append.1 h with h | h
  · obtain ⟨o, ho, rfl⟩ := List.mem_map.1 h
    exact (cands_mem (mem_sideOf.1 ho).1).2
  · obtain ⟨o, ho, rfl⟩ := List.mem_map.1 h
    exact (cands_mem (mem_sideOf.1 ho).1).1
theorem tnAt_price (M : Nat → List Ord) (q : Int) : (tnAt M q).price = q := by unfold tnAt; split <;> rfl
theorem tnAt_le {k : Nat} {M : Nat → List Ord} (h : BkOk k M) {q : Int} (hv : 0 < (tnAt M q).vol) : q ≤ 1000000 := by
  apply Int.not_lt.1
  intro hq
  have h0 : openAtO 1 q 0 (M 0) = 0 := openAt_nil fun y hy => by
    have := (h.ord 0 (by omega) y hy).1.price
    simp [beatsB]
    omega
  unfold tnAt at hv
  rw [h0] at hv
  split at hv <;> simp only at hv <;> omega
/-- The price of an opening is the same. -/
theorem price_open {s : Ref} (h : Good s) (k : Nat) : priceO s.L ((k : Int) + 1) = openTn (inBook s.L k) := by
  have hb := good_bk h k
  have hf := fold_find (L := s.L) (b := (k : Int) + 1) (C := cands s.L) (a := ⟨0, 0, 0⟩)
  have hr : (cands s.L).foldl (pStep s.L ((k : Int) + 1)) ⟨0, 0, 0⟩ = priceO s.L ((k : Int) + 1) := rfl
  rw [hr] at hf
  generalize priceO s.L ((k : Int) + 1) = r at *
  rcases openTn_cases (inBook s.L k) with ⟨_, e⟩ | ⟨q, hq, e, hv⟩
  · rw [e]
    rcases hf.is with e2 | ⟨p, _, _, hv, _⟩
    · exact e2
    · rw [tnB_at h] at hv
      have := (open_best hb p).1
      rw [e] at this
      simp only at this
      omega
  · have hq2 := hf.best q (turns_cands hq) (tnAt_le hb hv) (by rw [tnB_at h]; exact hv)
    rw [tnB_at h, ← e] at hq2
    have hv2 : 0 < (openTn (inBook s.L k)).vol := by rw [e]; exact hv
    rcases hf.is with e2 | ⟨p, _, _, hpv, e2⟩
    · rw [e2] at hq2
      refine absurd (.inl ?_) hq2
      exact hv2
    · rw [tnB_at h] at e2
      have hbest := open_best hb p
      rw [← e2] at hbest
      have hp : r.price = p := by rw [e2]; exact tnAt_price _ _
      rw [← hp] at hbest
      unfold BetterT at hq2
      refine Tn.ext' ?_ ?_ ?_ <;> omega
theorem open_inv {s : Ref} (h : Good s) {nb : Nat} (h1 : 1 ≤ nb) : OInv nb s.L (priceO s.L nb).vol := by
  obtain ⟨k, rfl⟩ : ∃ k, nb = k + 1 := ⟨nb - 1, by omega⟩
  have e : (((k + 1 : Nat)) : Int) = (k : Int) + 1 := by omega
  rw [e, price_open h k]
  exact ⟨h.ids, h.opns, openTn_lasts (good_bk h k), openTn_nonneg _⟩

theorem tradeF_zero (p : Int) (f : Nat) (A B : List Ord) (E : List Ev) : tradeF p f A B 0 E = (A, B, E) := by
  cases f with
  | zero => rfl
  | succ f =>
    cases A with
    | nil => rfl
    | cons a A =>
      cases B with
      | nil => rfl
      | cons b B => rw [tradeF, if_neg (by omega)]
theorem cutO_len2 {n : Int} {a : Ord} {A : List Ord} : (cutO n a A).length ≤ A.length + 1 ∧ (n = a.opn → (cutO n a A).length = A.length) := by
  unfold cutO
  split
  · exact ⟨by omega, fun _ => rfl⟩
  · exact ⟨by simp, fun e => absurd e ‹_›⟩
/-- What both openings leave. -/
structure OSame (b : Int) (L : List Ord) (t v : Int) (r : List Ord × Int × List Ev) (q : List Ord × List Ord × List Ev) : Prop where
  s1 : sideOf b 1 r.1 = q.1
  s2 : sideOf b 2 r.1 = q.2.1
  ev : r.2.2 = q.2.2
  td : r.2.1 = t + v
  other : ∀ b2 s2, (b2, s2) ≠ (b, 1) → (b2, s2) ≠ (b, 2) → sideOf b2 s2 r.1 = sideOf b2 s2 L
theorem oWhile_trade {b p : Int} : ∀ {f g : Nat} {L : List Ord} {t v : Int} {E : List Ev}, OInv b L v → L.length ≤ f → (sideOf b 1 L).length + (sideOf b 2 L).length ≤ g → OSame b L t v (oWhile b p f L t v E) (tradeF p g (sideOf b 1 L) (sideOf b 2 L) v E)
  | f, g, L, t, v, E, h, hf, hg => by
    by_cases hv : 0 < v
    · obtain ⟨i, j, hi, hj, st⟩ := oinv_step h hv
      obtain ⟨f', rfl⟩ : ∃ f', f = f' + 1 := ⟨f - 1, by omega⟩
      rw [oWhile_step hv hi hj st.bi st.bj]
      have hg' := hg
      rw [st.sx.1, st.sy.1] at hg'
      simp only [List.length_cons] at hg'
      obtain ⟨g', rfl⟩ : ∃ g', g = g' + 1 := ⟨g - 1, by omega⟩
      have ex := st.sx.2
      have ey := st.sy.2
      rw [st.sx.1, st.sy.1, tradeF, if_pos hv]
      rw [leastI_minO]
      have hinv := st.inv
      rw [leastI_minO] at hinv
      have l1 := cutO_len2 (n := minO L[i].opn L[j].opn) (a := L[i]) (A := sideOf b 1 (L.eraseIdx i))
      have l2 := cutO_len2 (n := minO L[i].opn L[j].opn) (a := L[j]) (A := sideOf b 2 (L.eraseIdx j))
      have hm := minO_le L[i].opn L[j].opn
      have ih := oWhile_trade (b := b) (p := p) (f := f') (g := g') (t := t + minO L[i].opn L[j].opn) (E := E ++ [tradedE L[i].id L[j].id p (minO L[i].opn L[j].opn)]) hinv (by have := st.len; omega) (by
        rw [ex, ey]
        rcases hm.2.2 with e | e
        · have := l1.2 e; omega
        · have := l2.2 e; omega)
      rw [ex, ey] at ih
      exact ⟨ih.s1, ih.s2, ih.ev, by rw [ih.td]; omega, fun b2 s2 n1 n2 => (ih.other b2 s2 n1 n2).trans (st.other b2 s2 n1 n2)⟩
    · have hv0 : v = 0 := by have := h.left; omega
      subst hv0
      rw [oWhile_stop (by omega), tradeF_zero]
      exact ⟨rfl, rfl, rfl, by simp, fun _ _ _ _ => rfl⟩
end Go.Proofs.YtigpgnjgmaoejaaGreat

/- Plain mathematics: the program's books (St, sDo) and the document's list (Ref, tDo) go together, whatever command is done. Conditions: the pit is good. -/
namespace Go.Proofs.YtigpgnjgmaoejaaGreat

theorem wrp_mix {a b c n : Int} (h : a = b + c) : wrp (wrp a + n) = wrp (b + wrp (c + n)) := by unfold wrp; rw [IntKind.wrap_i64, IntKind.wrap_i64, IntKind.wrap_i64, IntKind.wrap_i64]; omega
theorem volTo_out {td : Nat → Int} {nb : Nat} {t : Int} : ∀ {k : Nat}, k < nb → volTo (setTd td nb t) k = volTo td k
  | 0, _ => rfl
  | k + 1, h => by
    rw [volTo, volTo, volTo_out (by omega)]
    congr 1
    unfold setTd
    rw [if_neg (by omega)]
theorem volTo_in {td : Nat → Int} {nb : Nat} {t : Int} (h1 : 1 ≤ nb) : ∀ {k : Nat}, nb ≤ k → volTo (setTd td nb t) k = volTo td k - td nb + t
  | 0, h => by omega
  | k + 1, h => by
    rw [volTo, volTo]
    by_cases e : nb = k + 1
    · subst e
      rw [volTo_out (by omega)]
      have : setTd td (k + 1) t (k + 1) = t := by simp [setTd]
      rw [this]
      omega
    · rw [volTo_in h1 (by omega)]
      have : setTd td nb t (k + 1) = td (k + 1) := by unfold setTd; rw [if_neg (fun q => e q.symm)]
      rw [this]
      omega

/-- A book is another now, and some was traded in it. -/
theorem Sim.after {st : St} {s : Ref} (h : Sim st s) {k : Nat} (hk : k < 8) {M' : Nat → List Ord} {L' : List Ord} {n : Int} (hM : ∀ j, j < 2 → M' j = inBook L' k j) (ho : ∀ i, i < 8 → i ≠ k → ∀ j, j < 2 → inBook L' i j = inBook s.L i j) :
    Sim ⟨st.tr, upd st.td k (wrp (st.td k + n)), upd st.M k M', wrp (st.vol + n)⟩ ⟨L', s.tr, setTd s.td (k + 1) (wrp (s.td (k + 1) + n))⟩ := by
  refine ⟨fun i hi j hj => ?_, h.tr, fun i hi => ?_, ?_⟩
  · by_cases e : i = k
    · subst e; simp only [upd_self]; exact hM j hj
    · simp only [upd_other e]; rw [h.M i hi j hj]; exact (ho i hi e j hj).symm
  · by_cases e : i = k
    · subst e
      simp only [upd_self]
      rw [h.td i hi]
      simp [setTd]
    · simp only [upd_other e]
      rw [h.td i hi]
      unfold setTd
      rw [if_neg (by omega)]
  · simp only
    rw [h.vol, volTo_in (by omega) (by omega : k + 1 ≤ 8)]
    exact wrp_mix (by omega)
theorem Sim.phase {st : St} {s : Ref} (h : Sim st s) (k : Nat) (b : Bool) : Sim { st with tr := upd st.tr k b } { s with tr := setTr s.tr (k + 1) b } := by
  refine ⟨h.M, fun i hi => ?_, h.td, h.vol⟩
  by_cases e : i = k
  · subst e; simp [upd_self, setTr]
  · simp only [upd_other e]
    rw [h.tr i hi]
    unfold setTr
    rw [if_neg (by omega)]

theorem good_rch {s p q : Int} (h : s = 1 ∨ s = 2) : goodB s q p = !beatsB (3 - s) p q := by
  rcases h with rfl | rfl
  · simp only [goodB, beatsB]
    rw [Bool.eq_iff_iff]
    simp
  · simp only [goodB, beatsB]
    rw [Bool.eq_iff_iff]
    simp
/-- What both meet. -/
theorem meetS_meetP {rc : Int → Bool} {x y : Ord} (h1 : y.id = x.id) (h2 : y.trader = x.trader) : ∀ {S : List Ord} {t0 t o : Int} {E0 E : List Ev}, (∀ z ∈ S, goodB y.side z.price y.price = rc z.price) →
    meetS y S (t0 + t) o (E0 ++ E) = ((meetP rc x S t o E).1, t0 + (meetP rc x S t o E).2.1, (meetP rc x S t o E).2.2.1, E0 ++ (meetP rc x S t o E).2.2.2)
  | [], t0, t, o, E0, E, _ => rfl
  | z :: S, t0, t, o, E0, E, h => by
    have hz := h z List.mem_cons_self
    have hS := fun w hw => h w (List.mem_cons_of_mem z hw)
    simp only [meetS, meetP, hz, h1, h2]
    split
    · split
      · rw [List.append_assoc]; exact meetS_meetP h1 h2 hS
      · split
        · rw [List.append_assoc, Int.add_assoc]; exact meetS_meetP h1 h2 hS
        · rw [List.append_assoc, Int.add_assoc]
    · rfl

theorem upd_fj {M : Nat → List Ord} {L1 : List Ord} {x : Ord} {k : Nat} {A : List Ord} (hk : x.book = (k : Int) + 1) (hs : x.side = 1 ∨ x.side = 2) (hA : sideOf x.book (3 - x.side) L1 = A) (hM : ∀ j, j < 2 → j ≠ fj x.side → inBook L1 k j = M j) :
    ∀ j, j < 2 → upd M (fj x.side) A j = inBook L1 k j := fun j hj => by
  by_cases e : j = fj x.side
  · subst e
    rw [upd_self, ← hA, hk]
    unfold inBook
    rw [fj_side hs]
  · rw [upd_other e]
    exact (hM j hj e).symm

theorem putM_snoc {L1 : List Ord} {x : Ord} {k : Nat} {M : Nat → List Ord} (hk : x.book = (k : Int) + 1) (hM : ∀ j, j < 2 → M j = inBook L1 k j) : ∀ j, j < 2 → putM x M j = inBook (L1 ++ [x]) k j := fun j hj => by
  rw [inBook_snoc]
  unfold putM
  rw [hM j hj]
  by_cases hs : (j : Int) + 1 = x.side
  · rw [if_pos hs, if_pos ⟨hk.symm, hs⟩]
  · rw [if_neg hs, if_neg (fun q => hs q.2)]
theorem snoc_other {L1 : List Ord} {x : Ord} {k : Nat} (hk : x.book = (k : Int) + 1) : ∀ i, i ≠ k → ∀ j, inBook (L1 ++ [x]) i j = inBook L1 i j := fun i hi j => by
  rw [inBook_snoc, if_neg (fun q => hi (by have := q.1; omega))]

theorem putM_congr {x : Ord} {M M' : Nat → List Ord} (h : ∀ j, j < 2 → M j = M' j) : ∀ j, j < 2 → putM x M j = putM x M' j := fun j hj => by
  unfold putM
  rw [h j hj]
theorem enterB_gather {M : Nat → List Ord} {x : Ord} (ho : x.opn ≠ 0) : enterB false M x 1 = (putM x M, 0, [takenE x.id x.opn, restsE x.id x.price x.opn]) := by
  have e : meetB false M x 1 = (M (fj x.side), 0, x.opn, []) := by simp [meetB]
  unfold enterB
  simp only [e]
  rw [if_neg ho, if_pos (by decide), upd_same]
  rfl
/-- What the document's order is. -/
def docO (x : Ord) (kind : Int) : Ord := { x with price := if kind = 2 then 0 else x.price }

theorem Sim.enter {st : St} {s : Ref} (h : Sim st s) (hg : Good s) {x : Ord} {kind : Int} (hx : MayCome s (docO x kind) kind) (hp : kind = 2 ∨ 1 ≤ x.price ∧ x.price ≤ 1000000) :
    Sim (st.enter (bk x.book) x kind).1 (tTakes s (docO x kind) kind).1 ∧ (st.enter (bk x.book) x kind).2 = (tTakes s (docO x kind) kind).2 := by
  obtain ⟨h8, hbk⟩ := book_of (b := x.book) hx.book
  have hnb : x.book.toNat = bk x.book + 1 := by omega
  have hside : x.side = 1 ∨ x.side = 2 := hx.side
  have hopn : 1 ≤ x.opn ∧ x.opn ≤ 1000000 := hx.opn
  have eid : (mkt (docO x kind)).id = x.id := rfl
  have etr : (mkt (docO x kind)).trader = x.trader := rfl
  have ebk : (mkt (docO x kind)).book = x.book := rfl
  have esd : (mkt (docO x kind)).side = x.side := rfl
  have dbk : (docO x kind).book = x.book := rfl
  have dop : (docO x kind).opn = x.opn := rfl
  have did : (docO x kind).id = x.id := rfl
  unfold tTakes
  rw [dbk, dop, did]
  cases htr : s.tr x.book.toNat with
  | false =>
    have hk1 : kind = 1 := hx.gath htr
    subst hk1
    have ex : docO x 1 = x := by simp [docO]
    rw [if_neg (by decide), ex]
    have ht : st.tr (bk x.book) = false := by rw [h.tr _ h8, ← hnb]; exact htr
    have e : enterB (st.tr (bk x.book)) (st.M (bk x.book)) x 1 = (putM x (st.M (bk x.book)), 0, [takenE x.id x.opn, restsE x.id x.price x.opn]) := by rw [ht]; exact enterB_gather (by omega)
    have ha := h.after (k := bk x.book) (n := 0) h8 (M' := putM x (st.M (bk x.book))) (L' := s.L ++ [x]) (putM_snoc hbk (fun j hj => h.M _ h8 j hj)) (fun i _ hi j _ => snoc_other hbk i hi j)
    have et : setTd s.td (bk x.book + 1) (wrp (s.td (bk x.book + 1) + 0)) = s.td := by rw [Int.add_zero, hg.td, setTd_self]
    rw [et] at ha
    unfold St.enter
    rw [e]
    exact ⟨ha, rfl⟩
  | true =>
    rw [if_pos rfl]
    have ht : st.tr (bk x.book) = true := by rw [h.tr _ h8, ← hnb]; exact htr
    have hmS : st.M (bk x.book) (fj x.side) = sideOf x.book (3 - x.side) s.L := by
      rw [h.M _ h8 _ (fj_lt _)]
      unfold inBook
      rw [fj_side hside, ← hbk]
    have hrc : ∀ z ∈ sideOf x.book (3 - x.side) s.L, goodB (mkt (docO x kind)).side z.price (mkt (docO x kind)).price = rch kind x.side x.price z.price := fun z hz => by
      have hzp := (hg.ord z (mem_sideOf.1 hz).1).2.2.2.1
      rw [esd]
      by_cases hk : kind = 2
      · subst hk
        have : (mkt (docO x 2)).price = if x.side = 2 then 1 else 1000000 := by simp [mkt, docO]
        rw [this]
        rcases hside with e | e <;> rw [e] <;> simp [goodB, rch] <;> omega
      · have hp2 := hp.resolve_left hk
        have : (mkt (docO x kind)).price = x.price := by
          have : docO x kind = x := by simp [docO, hk]
          rw [this, mkt_self (by omega)]
        rw [this, good_rch hside]
        simp [rch, hk]
    have hmw := mWhile_meetS (x := mkt (docO x kind)) (f := s.L.length + 1) (S := sideOf x.book (3 - x.side) s.L) (L := s.L) (t := s.td x.book.toNat) (o := x.opn) (E := [takenE x.id x.opn]) hg.ids (fun y hy => by have := hg.opns y hy; omega) rfl (by rw [sideOf_len]; have := restN_le s.L x.book (3 - x.side); omega)
    have hmp := meetS_meetP (rc := rch kind x.side x.price) (x := x) (y := mkt (docO x kind)) eid etr (t0 := s.td x.book.toNat) (t := 0) (o := x.opn) (E0 := [takenE x.id x.opn]) (E := []) hrc
    rw [Int.add_zero, List.append_nil] at hmp
    rw [hmp] at hmw
    generalize hR : mWhile (mkt (docO x kind)) (s.L.length + 1) s.L (s.td x.book.toNat) x.opn [takenE x.id x.opn] = R at *
    have em : meetB (st.tr (bk x.book)) (st.M (bk x.book)) x kind = meetP (rch kind x.side x.price) x (sideOf x.book (3 - x.side) s.L) 0 x.opn [] := by
      unfold meetB
      rw [if_pos ht, hmS]
    generalize hm : meetP (rch kind x.side x.price) x (sideOf x.book (3 - x.side) s.L) 0 x.opn [] = m at *
    obtain ⟨R1, R2, R3, R4⟩ := R
    obtain ⟨m1, m2, m3, m4⟩ := m
    obtain ⟨e2, met⟩ := hmw
    simp only [Prod.mk.injEq] at e2
    obtain ⟨rfl, rfl, rfl⟩ := e2
    have mside : sideOf x.book (3 - x.side) R1 = m1 := met.side
    have mother : ∀ b s2, (b, s2) ≠ (x.book, 3 - x.side) → sideOf b s2 R1 = sideOf b s2 s.L := met.other
    have hMM : ∀ j, j < 2 → upd (st.M (bk x.book)) (fj x.side) m1 j = inBook R1 (bk x.book) j := upd_fj hbk hside mside fun j hj hne => by
      rw [h.M _ h8 j hj]
      exact mother _ _ (fun e => by
        simp only [Prod.mk.injEq] at e
        have := fj_side hside
        exact hne (by omega))
    have hoth : ∀ i, i < 8 → i ≠ bk x.book → ∀ j, j < 2 → inBook R1 i j = inBook s.L i j := fun i _ hi j _ => mother _ _ (fun e => by
      simp only [Prod.mk.injEq] at e
      exact hi (by omega))
    unfold St.enter enterB
    rw [em]
    unfold takesT
    simp only
    rw [hnb]
    by_cases hz : R3 = 0
    · rw [if_pos hz, if_pos hz]
      exact ⟨h.after h8 hMM hoth, rfl⟩
    · rw [if_neg hz, if_neg hz]
      by_cases hw : kind = 1 ∨ kind = 5
      · have hwb : waitsB kind = true := by simpa [waitsB] using hw
        rw [if_pos hwb, if_pos hw]
        have hk2 : kind ≠ 2 := by omega
        have hp2 := hp.resolve_left hk2
        have exd : mkt (docO x kind) = x := by
          have : docO x kind = x := by simp [docO, hk2]
          rw [this, mkt_self (by omega)]
        rw [exd]
        refine ⟨h.after h8 (putM_snoc (x := { x with opn := R3 }) hbk hMM) (fun i hi hne j hj => (snoc_other (x := { x with opn := R3 }) hbk i hne j).trans (hoth i hi hne j hj)), rfl⟩
      · have hwb : ¬ waitsB kind = true := by simpa [waitsB] using hw
        rw [if_neg hwb, if_neg hw]
        exact ⟨h.after h8 hMM hoth, rfl⟩

theorem restO_find {L : List Ord} {id : Int} : (restO L id = none ↔ findO L id = none) := by
  unfold restO
  cases hf : findO L id with
  | none => simp
  | some i =>
    have hi := findO_lt' hf
    simp [List.getElem?_eq_getElem hi]

/-- Whether an order crosses. -/
theorem cross_side {s : Ref} (hg : Good s) {x : Ord} (hs : x.side = 1 ∨ x.side = 2) : crossB s.L x = decide (0 < openAtO (3 - x.side) x.price 0 (sideOf x.book (3 - x.side) s.L)) := by
  have hpos : ∀ y ∈ sideOf x.book (3 - x.side) s.L, 1 ≤ y.opn ∧ y.trader ≠ 0 := fun y hy => ⟨(hg.opns y (mem_sideOf.1 hy).1).1, hg.nobody y (mem_sideOf.1 hy).1⟩
  have hsrt := srt_sideOf x.book (3 - x.side) s.L
  unfold crossB
  cases hb : bestO s.L x.book (3 - x.side) with
  | none =>
    rw [side_none hb]
    simp [openAtO]
  | some i =>
    obtain ⟨hi, h1, h2⟩ := side_best hb
    simp only [priceAt_eq hi]
    rw [good_rch hs]
    rw [h2] at hpos hsrt ⊢
    cases hbt : beatsB (3 - x.side) x.price s.L[i].price with
    | false =>
      have := openAtO_mem (sd := 3 - x.side) (q := x.price) hpos List.mem_cons_self hbt
      rw [Bool.not_false]
      exact (decide_eq_true (by omega)).symm
    | true =>
      rw [openAt_nil fun y hy => by
        rcases List.mem_cons.1 hy with rfl | hy
        · exact hbt
        · exact bt_nb hbt ((List.pairwise_cons.1 hsrt).1 y hy)]
      simp
theorem matched_side {s : Ref} (hg : Good s) {x : Ord} (hs : x.side = 1 ∨ x.side = 2) : matchedO s.L x = openAtO (3 - x.side) x.price x.trader (sideOf x.book (3 - x.side) s.L) := by
  have e : openAtO (3 - x.side) x.price x.trader (sideOf x.book (3 - x.side) s.L) = sumO ((sideOf x.book (3 - x.side) s.L).filter fun o => !beatsB (3 - x.side) x.price o.price && o.trader != x.trader) := rfl
  rw [e, ← sideOf_filter, sumO_side, List.filter_filter]
  unfold matchedO sumO
  congr 2
  refine List.filter_congr fun o ho => ?_
  have hos := (hg.ord o ho).2.1
  unfold isMet inSide
  rw [good_rch hs]
  have e2 : (o.side != x.side) = (o.side == 3 - x.side) := by
    rw [Bool.eq_iff_iff]
    simp only [bne_iff_ne, ne_eq, beq_iff_eq]
    omega
  rw [e2]
  cases o.book == x.book <;> cases o.side == 3 - x.side <;> cases o.trader != x.trader <;> cases !beatsB (3 - x.side) x.price o.price <;> rfl

theorem sim_new {st : St} {s : Ref} (h : Sim st s) (hg : Good s) (c : Cmd) : Sim (sNew st c).1 (tNew s c).1 ∧ (sNew st c).2 = (tNew s c).2 := by
  unfold sNew tNew
  by_cases hok : newOk c = false
  · rw [if_pos hok, if_pos hok]; exact ⟨h, rfl⟩
  · rw [if_neg hok, if_neg hok]
    have hok : newOk c = true := by simpa using hok
    obtain ⟨o1, o2, o3, o4, o5, o6, o7⟩ := newOk_all hok
    rw [h.get hg]
    by_cases hf : (findO s.L c.id).isSome = true
    · have hr : (restO s.L c.id).isSome = true := by
        cases hr : restO s.L c.id with
        | none => rw [restO_find.1 hr] at hf; cases hf
        | some _ => rfl
      rw [if_pos hr, if_pos hf]
      exact ⟨h, rfl⟩
    · have hfn : findO s.L c.id = none := by simpa using hf
      rw [restO_find.2 hfn, if_neg (by simp), if_neg hf]
      obtain ⟨h8, hbk⟩ := book_of o3
      have hnb : c.book.toNat = bk c.book + 1 := by omega
      have htr : st.tr (bk c.book) = s.tr c.book.toNat := by rw [h.tr _ h8, hnb]
      have l0 : (st.M (bk c.book) 0).length = restN s.L c.book 1 := by rw [h.M _ h8 0 (by omega), inBook_len, ← hbk]; rfl
      have l1 : (st.M (bk c.book) 1).length = restN s.L c.book 2 := by rw [h.M _ h8 1 (by omega), inBook_len, ← hbk]; rfl
      have hmS : st.M (bk c.book) (fj c.side) = sideOf c.book (3 - c.side) s.L := by
        rw [h.M _ h8 _ (fj_lt _)]
        unfold inBook
        rw [fj_side o4, ← hbk]
      have hmis : mismB (st.M (bk c.book)) (ordOf c) c.kind = true ↔ (c.kind = 5 ∧ crossB s.L (ordOf c) = true ∨ c.kind = 4 ∧ matchedO s.L (ordOf c) < c.count) := by
        have e1 : crossB s.L (ordOf c) = decide (0 < openAtO (3 - c.side) c.price 0 (st.M (bk c.book) (fj c.side))) := by rw [hmS]; exact cross_side hg (x := ordOf c) o4
        have e2 : matchedO s.L (ordOf c) = openAtO (3 - c.side) c.price c.trader (st.M (bk c.book) (fj c.side)) := by rw [hmS]; exact matched_side hg (x := ordOf c) o4
        rw [e1, e2]
        unfold mismB
        simp only [ordOf]
        by_cases hk5 : c.kind = 5
        · rw [if_pos hk5]
          simp only [decide_eq_true_eq]
          exact ⟨fun q => .inl ⟨hk5, of_decide_eq_true q⟩, fun q => q.elim (fun q => decide_eq_true q.2) (fun q => absurd (hk5.symm.trans q.1) (by decide))⟩
        · rw [if_neg hk5]
          by_cases hk4 : c.kind = 4
          · rw [if_pos hk4]
            simp only [decide_eq_true_eq]
            exact ⟨fun q => .inr ⟨hk4, of_decide_eq_true q⟩, fun q => q.elim (fun q => absurd q.1 hk5) (fun q => decide_eq_true q.2)⟩
          · rw [if_neg hk4]
            exact ⟨fun q => (by cases q), fun q => q.elim (fun q => absurd q.1 hk5) (fun q => absurd q.1 hk4)⟩
      have hwt : waitsB c.kind = true ↔ (c.kind = 1 ∨ c.kind = 5) := by simp [waitsB]
      unfold barsB
      rw [htr, l0, l1]
      by_cases c1 : s.tr c.book.toNat = false ∧ c.kind ≠ 1
      · simp only [if_pos c1]
        rw [if_pos (by decide)]
        exact ⟨h, rfl⟩
      · simp only [if_neg c1]
        by_cases c2 : mismB (st.M (bk c.book)) (ordOf c) c.kind = true
        · simp only [if_pos c2, if_pos (hmis.1 c2)]
          rw [if_pos (by decide)]
          exact ⟨h, rfl⟩
        · simp only [if_neg c2, if_neg (fun q => c2 (hmis.2 q))]
          by_cases c3 : (c.kind = 1 ∨ c.kind = 5) ∧ 200 ≤ restN s.L c.book 1 + restN s.L c.book 2
          · have c3' : waitsB c.kind = true ∧ 200 ≤ restN s.L c.book 1 + restN s.L c.book 2 := ⟨hwt.2 c3.1, c3.2⟩
            simp only [if_pos c3, if_pos c3']
            rw [if_pos (by decide)]
            exact ⟨h, rfl⟩
          · have c3' : ¬ (waitsB c.kind = true ∧ 200 ≤ restN s.L c.book 1 + restN s.L c.book 2) := fun q => c3 ⟨hwt.1 q.1, q.2⟩
            simp only [if_neg c3, if_neg c3']
            rw [if_neg (by decide)]
            exact h.enter hg (x := ordOf c) (kind := c.kind) (new_may hok (by simpa using hf) c1 c3) o6

theorem turnOk_cancel {c : Cmd} (h : c.what ≠ 3) : turnOk c = (inB c.id 1 1000000000 && inB c.trader 1 1000) := by
  simp [turnOk, h]
theorem turnOk_change {c : Cmd} (h : c.what = 3) : turnOk c = chOk c := by
  simp [turnOk, chOk, h]
theorem tTurn_bad {s : Ref} {c : Cmd} (h : turnOk c = false) : tTurn s c = (s, [refusedE c.id 2]) := by simp [tTurn, h]
theorem sim_cancel {st : St} {s : Ref} (h : Sim st s) (hg : Good s) (c : Cmd) (hc : c.what ≠ 3) : Sim (sCancel st c).1 (tTurn s c).1 ∧ (sCancel st c).2 = (tTurn s c).2 := by
  unfold sCancel
  rw [← turnOk_cancel hc]
  by_cases hok : turnOk c = false
  · rw [if_pos hok, tTurn_bad hok]; exact ⟨h, rfl⟩
  · rw [if_neg hok, h.getOf hg]
    have := tTurn_of hg.ids (c := c) (by simpa using hok)
    cases hr : ofT c.trader (restO s.L c.id) with
    | none => rw [hr] at this; rw [this]; exact ⟨h, rfl⟩
    | some x =>
      rw [hr] at this
      obtain ⟨hx, _, _, _, e⟩ := this
      rw [e, if_pos hc]
      exact ⟨h.removed hg.ids hx (hg.ord x hx).1, rfl⟩
theorem sim_change {st : St} {s : Ref} (h : Sim st s) (hg : Good s) (c : Cmd) (hc : c.what = 3) : Sim (sChange st c).1 (tTurn s c).1 ∧ (sChange st c).2 = (tTurn s c).2 := by
  unfold sChange
  rw [← turnOk_change hc]
  by_cases hok : turnOk c = false
  · rw [if_pos hok, tTurn_bad hok]; exact ⟨h, rfl⟩
  · have hok2 : chOk c = true := by rw [← turnOk_change hc]; simpa using hok
    rw [if_neg hok, h.getOf hg]
    have := tTurn_of hg.ids (c := c) (by simpa using hok)
    cases hr : ofT c.trader (restO s.L c.id) with
    | none => rw [hr] at this; rw [this]; exact ⟨h, rfl⟩
    | some x =>
      rw [hr] at this
      obtain ⟨hx, _, _, ⟨i, hi, hix, hie⟩, e⟩ := this
      rw [e, if_neg (fun q => q hc)]
      simp only
      by_cases hp : c.price = x.price ∧ c.count ≤ x.opn
      · rw [if_pos hp, if_pos hp]
        exact ⟨h.reopened hg.ids hx (hg.ord x hx).1 _, rfl⟩
      · rw [if_neg hp, if_neg hp]
        obtain ⟨hpp, hcn⟩ := chOk_all hok2
        have h1 := h.removed hg.ids hx (hg.ord x hx).1
        have hmc := change_may hg hi hpp hcn
        rw [hix, hie] at hmc
        have hg1 : Good { s with L := without x.id s.L } := hg.sub List.filter_sublist
        have ed : docO { x with price := c.price, opn := c.count } 1 = { x with price := c.price, opn := c.count } := by simp [docO]
        have h2 := h1.enter hg1 (x := { x with price := c.price, opn := c.count }) (kind := 1) (by rw [ed]; exact hmc) (.inr hpp)
        rw [ed] at h2
        refine ⟨h2.1, ?_⟩
        show goneO x :: _ = _
        have e2 : ((st.rem (bk x.book) x.id).enter (bk x.book) { x with price := c.price, opn := c.count } 1).2 = _ := h2.2
        rw [e2]

theorem openTn_congr {M M' : Nat → List Ord} (h : ∀ j, j < 2 → M j = M' j) : openTn M = openTn M' ∧ tradeB M = tradeB M' := by
  have h0 := h 0 (by omega)
  have h1 := h 1 (by omega)
  have e1 : openTn M = openTn M' := by
    have e : ∀ q, tnAt M q = tnAt M' q := fun q => by unfold tnAt; rw [h0, h1]
    have et : turnsL M = turnsL M' := by unfold turnsL; rw [h0, h1]
    unfold openTn tnsL
    rw [et, show tnAt M = tnAt M' from funext e]
  exact ⟨e1, by unfold tradeB; rw [e1, h0, h1]⟩
theorem sim_open {st : St} {s : Ref} (h : Sim st s) (hg : Good s) {nb : Nat} (h1 : 1 ≤ nb) (h8 : nb ≤ 8) : Sim (st.open_ (nb - 1)).1 (tOpenAt s nb).1 ∧ (st.open_ (nb - 1)).2 = (tOpenAt s nb).2 := by
  obtain ⟨k, rfl⟩ : ∃ k, nb = k + 1 := ⟨nb - 1, by omega⟩
  rw [show k + 1 - 1 = k by omega]
  have hk : k < 8 := by omega
  have ek : ((k + 1 : Nat) : Int) = (k : Int) + 1 := by omega
  obtain ⟨c1, c2⟩ := openTn_congr (h.M k hk)
  have hinv := open_inv hg h1
  have hp := price_open hg k
  rw [ek] at hinv
  have hs := oWhile_trade (p := (priceO s.L ((k : Int) + 1)).price) (f := s.L.length + 1) (g := (inBook s.L k 0).length + (inBook s.L k 1).length) (t := s.td (k + 1)) (E := []) hinv (by omega) (Nat.le_refl _)
  have eO : oRun s (k + 1) = oWhile ((k : Int) + 1) (priceO s.L ((k : Int) + 1)).price (s.L.length + 1) s.L (s.td (k + 1)) (priceO s.L ((k : Int) + 1)).vol [] := by unfold oRun; rw [ek]
  rw [← eO] at hs
  have eT : tradeF (priceO s.L ((k : Int) + 1)).price ((inBook s.L k 0).length + (inBook s.L k 1).length) (sideOf ((k : Int) + 1) 1 s.L) (sideOf ((k : Int) + 1) 2 s.L) (priceO s.L ((k : Int) + 1)).vol [] = tradeB (st.M k) := by
    rw [c2]
    unfold tradeB
    rw [hp]
    rfl
  rw [eT] at hs
  have hM : ∀ j, j < 2 → openM (st.M k) j = inBook (oRun s (k + 1)).1 k j := fun j hj => by
    match j, hj with
    | 0, _ => exact hs.s1.symm
    | 1, _ => exact hs.s2.symm
  have ho : ∀ i, i < 8 → i ≠ k → ∀ j, j < 2 → inBook (oRun s (k + 1)).1 i j = inBook s.L i j := fun i _ hi j _ => hs.other _ _ (fun e => by simp only [Prod.mk.injEq] at e; omega) (fun e => by simp only [Prod.mk.injEq] at e; omega)
  have ha := (h.after (n := (openTn (st.M k)).vol) hk hM ho).phase k true
  have etd : (oRun s (k + 1)).2.1 = s.td (k + 1) + (openTn (st.M k)).vol := by rw [hs.td, hp, c1]
  unfold tOpenAt St.open_ openE
  rw [etd, hs.ev, ek, hp, ← c1]
  exact ⟨ha, rfl⟩

theorem sim_opens {st : St} {s : Ref} (h : Sim st s) (hg : Good s) (c : Cmd) : Sim (sOpen st c).1 (tOpen s c).1 ∧ (sOpen st c).2 = (tOpen s c).2 := by
  unfold sOpen tOpen
  by_cases hb : inB c.book 1 8 = false
  · rw [if_pos hb, if_pos hb]; exact ⟨h, rfl⟩
  · rw [if_neg hb, if_neg hb]
    have hb' : inB c.book 1 8 = true := by simpa using hb
    have hb8 := inB_true hb'
    obtain ⟨k8, hbk⟩ := book_of hb8
    have hnb : c.book.toNat = bk c.book + 1 := by omega
    rw [h.tr _ k8, hnb]
    have := sim_open h hg (nb := bk c.book + 1) (by omega) (by omega)
    rw [Nat.add_sub_cancel] at this
    by_cases ht : s.tr (bk c.book + 1) = true
    · rw [if_pos ht, if_pos ht]; exact ⟨h, rfl⟩
    · rw [if_neg ht, if_neg ht]
      exact this
theorem sim_closes {st : St} {s : Ref} (h : Sim st s) (c : Cmd) : Sim (sClose st c).1 (tClose s c).1 ∧ (sClose st c).2 = (tClose s c).2 := by
  unfold sClose tClose
  by_cases hb : inB c.book 1 8 = false
  · rw [if_pos hb, if_pos hb]; exact ⟨h, rfl⟩
  · rw [if_neg hb, if_neg hb]
    have hb' : inB c.book 1 8 = true := by simpa using hb
    have hb8 := inB_true hb'
    obtain ⟨k8, hbk⟩ := book_of hb8
    have hnb : c.book.toNat = bk c.book + 1 := by omega
    rw [h.tr _ k8, hnb]
    by_cases ht : s.tr (bk c.book + 1) = false
    · rw [if_pos ht, if_pos ht]; exact ⟨h, rfl⟩
    · rw [if_neg ht, if_neg ht]
      exact ⟨h.phase (bk c.book) false, rfl⟩
theorem sim_do {st : St} {s : Ref} (h : Sim st s) (hg : Good s) (c : Cmd) : Sim (sDo st c).1 (tDo s c).1 ∧ (sDo st c).2 = (tDo s c).2 := by
  unfold sDo tDo
  by_cases h1 : c.what = 1
  · rw [if_pos h1, if_pos h1]; exact sim_new h hg c
  · rw [if_neg h1, if_neg h1]
    by_cases h2 : c.what = 2
    · rw [if_pos h2, if_pos (.inl h2)]; exact sim_cancel h hg c (by omega)
    · rw [if_neg h2]
      by_cases h3 : c.what = 3
      · rw [if_pos h3, if_pos (.inr h3)]; exact sim_change h hg c h3
      · have h23 : ¬ (c.what = 2 ∨ c.what = 3) := fun q => q.elim h2 h3
        rw [if_neg h3, if_neg h23]
        by_cases h4 : c.what = 4
        · rw [if_pos h4, if_pos h4]
          unfold sCancelAll
          by_cases hb : inB c.trader 1 1000 = true
          · rw [if_neg (by rw [hb]; decide), if_pos hb]
            have hd := h.dropped hg c.trader
            generalize cTo s.L c.trader 8 = X at hd ⊢
            exact hd
          · rw [if_pos (by simpa using hb), if_neg hb]
            exact ⟨h, rfl⟩
        · rw [if_neg h4, if_neg h4]
          by_cases h5 : c.what = 5
          · rw [if_pos h5, if_pos h5]; exact sim_opens h hg c
          · rw [if_neg h5, if_neg h5]
            by_cases h6 : c.what = 6
            · rw [if_pos h6, if_pos h6]; exact sim_closes h c
            · rw [if_neg h6, if_neg h6]
              exact ⟨h, rfl⟩
end Go.Proofs.YtigpgnjgmaoejaaGreat
