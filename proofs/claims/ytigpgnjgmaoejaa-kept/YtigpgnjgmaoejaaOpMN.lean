/- Plain mathematics: what an opening comes to (openB), and that both sides last until its volume is traded. Conditions: each side is sorted, what is open of each order is 1 or more. -/
import Derived.Test.YtigpgnjgmaoejaaMarts
import Derived.Test.YtigpgnjgmaoejaaMeet
namespace Go.Proofs.Ytigpgnjgmaoejaa

theorem upd_same {α : Type} (f : Nat → α) (k : Nat) : upd f k (f k) = f := by
  funext j
  by_cases h : j = k
  · subst h; rw [upd_self]
  · rw [upd_other h]

/-- What an opening at a price comes to. -/
structure Tn where
  price : Int
  vol : Int
  rest : Int

def tnAt (M : Nat → List Ord) (q : Int) : Tn :=
  if openAtO 1 q 0 (M 0) ≤ openAtO 2 q 0 (M 1) then ⟨q, openAtO 1 q 0 (M 0), openAtO 2 q 0 (M 1) - openAtO 1 q 0 (M 0)⟩
  else ⟨q, openAtO 2 q 0 (M 1), openAtO 1 q 0 (M 0) - openAtO 2 q 0 (M 1)⟩
def cmpI (a b : Int) : Int := if a < b then -1 else if b < a then 1 else 0
def orI (a b c : Int) : Int := if a ≠ 0 then a else if b ≠ 0 then b else c
def cmpT (a b : Tn) : Int := orI (cmpI b.vol a.vol) (cmpI a.rest b.rest) (cmpI a.price b.price)
/-- The first of those that come first. -/
def minT (m : Tn) : List Tn → Tn
  | [] => m
  | x :: l => minT (if cmpT x m < 0 then x else m) l
def turnsL (M : Nat → List Ord) : List Int := brks (M 0) (M 1)
def tnsL (M : Nat → List Ord) : List Tn := ((turnsL M).map (tnAt M)).filter fun x => decide (0 < x.vol)
def minL : List Tn → Tn
  | [] => ⟨0, 0, 0⟩
  | x :: l => minT x l
def openTn (M : Nat → List Ord) : Tn := minL (tnsL M)

/-- What is left of an order of which some is traded. -/
def cutO (n : Int) (a : Ord) (A : List Ord) : List Ord := if n = a.opn then A else { a with opn := a.opn - n } :: A
def minO (a b : Int) : Int := if a ≤ b then a else b
/-- The best of both sides trade at a price. -/
def tradeF (p : Int) : Nat → List Ord → List Ord → Int → List Ev → List Ord × List Ord × List Ev
  | 0, A, B, _, E => (A, B, E)
  | _ + 1, [], B, _, E => ([], B, E)
  | _ + 1, a :: A, [], _, E => (a :: A, [], E)
  | f + 1, a :: A, b :: B, v, E =>
    if 0 < v then tradeF p f (cutO (minO a.opn b.opn) a A) (cutO (minO a.opn b.opn) b B) (v - minO a.opn b.opn) (E ++ [tradedE a.id b.id p (minO a.opn b.opn)])
    else (a :: A, b :: B, E)

def openedE (p n : Int) : Ev := ⟨6, 0, 0, p, n, 0⟩
def closedE : Ev := ⟨7, 0, 0, 0, 0, 0⟩
def tradeB (M : Nat → List Ord) : List Ord × List Ord × List Ev := tradeF (openTn M).price ((M 0).length + (M 1).length) (M 0) (M 1) (openTn M).vol []
def openM (M : Nat → List Ord) : Nat → List Ord := upd (upd M 0 (tradeB M).1) 1 (tradeB M).2.1
def openE (M : Nat → List Ord) : List Ev := (tradeB M).2.2 ++ [openedE (openTn M).price (openTn M).vol]

def St.open_ (s : St) (k : Nat) : St × List Ev :=
  (⟨upd s.tr k true, upd s.td k (wrp (s.td k + (openTn (s.M k)).vol)), upd s.M k (openM (s.M k)), wrp (s.vol + (openTn (s.M k)).vol)⟩, openE (s.M k))
def sOpen (s : St) (c : Cmd) : St × List Ev :=
  if inB c.book 1 8 = false then (s, [refusedE 0 2]) else if s.tr (bk c.book) = true then (s, [refusedE 0 6]) else s.open_ (bk c.book)
def St.close_ (s : St) (k : Nat) : St × List Ev := ({ s with tr := upd s.tr k false }, [closedE])
def sClose (s : St) (c : Cmd) : St × List Ev :=
  if inB c.book 1 8 = false then (s, [refusedE 0 2]) else if s.tr (bk c.book) = false then (s, [refusedE 0 6]) else s.close_ (bk c.book)
/-- What a command comes to. -/
def sDo (s : St) (c : Cmd) : St × List Ev :=
  if c.what = 1 then sNew s c else if c.what = 2 then sCancel s c else if c.what = 3 then sChange s c else if c.what = 4 then sCancelAll s c else if c.what = 5 then sOpen s c else if c.what = 6 then sClose s c else (s, [refusedE 0 1])

def sumO (L : List Ord) : Int := (L.map Ord.opn).sum
theorem sumO_nil : sumO [] = 0 := rfl
theorem sumO_cons (x : Ord) (L : List Ord) : sumO (x :: L) = x.opn + sumO L := by simp [sumO]
theorem sumO_pos {L : List Ord} (h : ∀ y ∈ L, 1 ≤ y.opn) : 0 ≤ sumO L := by
  induction L with
  | nil => exact Int.le_refl _
  | cons x l ih =>
    have := ih fun y hy => h y (List.mem_cons_of_mem _ hy)
    have := h x List.mem_cons_self
    rw [sumO_cons]
    omega

theorem openAt_nil {sd q own : Int} {L : List Ord} (h : ∀ y ∈ L, beatsB sd q y.price = true) : openAtO sd q own L = 0 := by
  unfold openAtO
  rw [List.filter_eq_nil_iff.2]
  · rfl
  · intro y hy
    simp [h y hy]
theorem bt_nb {sd p q r : Int} (h : beatsB sd p q = true) (k : beatsB sd r q = false) : beatsB sd p r = true := by
  by_cases e : beatsB sd p r = true
  · exact e
  · have := nb_trans (by simpa using e) k
    rw [this] at h
    cases h
/-- What is to be had at a price is the front of a sorted side. -/
theorem openAt_front {sd q : Int} : ∀ {L : List Ord}, Srt sd L → (∀ y ∈ L, y.trader ≠ 0) → ∃ A B, L = A ++ B ∧ openAtO sd q 0 L = sumO A ∧ (∀ y ∈ A, beatsB sd q y.price = false) ∧ ∀ y ∈ B, beatsB sd q y.price = true
  | [], _, _ => ⟨[], [], rfl, rfl, by simp, by simp⟩
  | x :: L, h, ht => by
    obtain ⟨h1, h2⟩ := List.pairwise_cons.1 h
    cases hx : beatsB sd q x.price with
    | true =>
      have hall : ∀ y ∈ x :: L, beatsB sd q y.price = true := fun y hy => by
        rcases List.mem_cons.1 hy with rfl | hy
        · exact hx
        · exact bt_nb hx (h1 y hy)
      exact ⟨[], x :: L, rfl, openAt_nil hall, by simp, hall⟩
    | false =>
      obtain ⟨A, B, e, hs, ha, hb⟩ := openAt_front (q := q) h2 (fun y hy => ht y (List.mem_cons_of_mem _ hy))
      refine ⟨x :: A, B, by rw [e]; rfl, ?_, fun y hy => ?_, hb⟩
      · rw [sumO_cons, ← hs]
        unfold openAtO
        rw [List.filter_cons_of_pos (by simp [hx, ht x List.mem_cons_self])]
        simp
      · rcases List.mem_cons.1 hy with rfl | hy
        · exact hx
        · exact ha y hy

/-- Both sides last for a volume. -/
def Lasts (A B : List Ord) (v : Int) : Prop := ∃ A1 A2 B1 B2, A = A1 ++ A2 ∧ B = B1 ++ B2 ∧ (v = sumO A1 ∧ v ≤ sumO B1 ∨ v = sumO B1 ∧ v ≤ sumO A1)

theorem Lasts.head {A B : List Ord} {v : Int} (h : Lasts A B v) (hv : 0 < v) : ∃ a A' b B', A = a :: A' ∧ B = b :: B' := by
  obtain ⟨A1, A2, B1, B2, rfl, rfl, h⟩ := h
  have ha : A1 ≠ [] := by rintro rfl; rw [sumO_nil] at h; omega
  have hb : B1 ≠ [] := by rintro rfl; rw [sumO_nil] at h; omega
  obtain ⟨a, A', rfl⟩ := List.exists_cons_of_ne_nil ha
  obtain ⟨b, B', rfl⟩ := List.exists_cons_of_ne_nil hb
  exact ⟨a, A' ++ A2, b, B' ++ B2, rfl, rfl⟩
theorem cutO_append (n : Int) (a : Ord) (A A2 : List Ord) : cutO n a (A ++ A2) = cutO n a A ++ A2 := by
  unfold cutO
  split <;> rfl
theorem cutO_sum (n : Int) (a : Ord) (A : List Ord) : sumO (cutO n a A) = a.opn + sumO A - n := by
  unfold cutO
  split
  · omega
  · rw [sumO_cons]; simp only; omega
theorem minO_le (a b : Int) : minO a b ≤ a ∧ minO a b ≤ b ∧ (minO a b = a ∨ minO a b = b) := by
  unfold minO
  split <;> omega
theorem Lasts.step {a b : Ord} {A B : List Ord} {v : Int} (h : Lasts (a :: A) (b :: B) v) (hv : 0 < v) (hA : ∀ y ∈ a :: A, 1 ≤ y.opn) (hB : ∀ y ∈ b :: B, 1 ≤ y.opn) :
    1 ≤ minO a.opn b.opn ∧ minO a.opn b.opn ≤ v ∧ Lasts (cutO (minO a.opn b.opn) a A) (cutO (minO a.opn b.opn) b B) (v - minO a.opn b.opn) := by
  obtain ⟨A1, A2, B1, B2, ea, eb, h⟩ := h
  have ha : A1 ≠ [] := by rintro rfl; rw [sumO_nil] at h; omega
  have hb : B1 ≠ [] := by rintro rfl; rw [sumO_nil] at h; omega
  obtain ⟨a', A', rfl⟩ := List.exists_cons_of_ne_nil ha
  obtain ⟨b', B', rfl⟩ := List.exists_cons_of_ne_nil hb
  simp only [List.cons_append, List.cons.injEq] at ea eb
  obtain ⟨rfl, rfl⟩ := ea
  obtain ⟨rfl, rfl⟩ := eb
  have h1 := hA a List.mem_cons_self
  have h2 := hB b List.mem_cons_self
  have h3 : 0 ≤ sumO A' := sumO_pos fun y hy => hA y (by simp [hy])
  have h4 : 0 ≤ sumO B' := sumO_pos fun y hy => hB y (by simp [hy])
  have hm := minO_le a.opn b.opn
  rw [sumO_cons, sumO_cons] at h
  refine ⟨by omega, by omega, cutO _ a A', A2, cutO _ b B', B2, cutO_append _ _ _ _, cutO_append _ _ _ _, ?_⟩
  rw [cutO_sum, cutO_sum]
  omega

theorem minT_mem : ∀ {l : List Tn} {m : Tn}, minT m l = m ∨ minT m l ∈ l
  | [], m => .inl rfl
  | x :: l, m => by
    show minT (if cmpT x m < 0 then x else m) l = m ∨ minT (if cmpT x m < 0 then x else m) l ∈ x :: l
    split
    · rcases minT_mem (l := l) (m := x) with h | h
      · exact .inr (by rw [h]; exact List.mem_cons_self)
      · exact .inr (List.mem_cons_of_mem _ h)
    · rcases minT_mem (l := l) (m := m) with h | h
      · exact .inl h
      · exact .inr (List.mem_cons_of_mem _ h)
theorem minL_mem {l : List Tn} (h : l ≠ []) : minL l ∈ l := by
  obtain ⟨x, l', rfl⟩ := List.exists_cons_of_ne_nil h
  show minT x l' ∈ x :: l'
  rcases minT_mem (l := l') (m := x) with h | h
  · rw [h]; exact List.mem_cons_self
  · exact List.mem_cons_of_mem _ h
/-- The opening is none, or at one of the prices. -/
theorem openTn_cases (M : Nat → List Ord) : tnsL M = [] ∧ openTn M = ⟨0, 0, 0⟩ ∨ ∃ q ∈ turnsL M, openTn M = tnAt M q ∧ 0 < (tnAt M q).vol := by
  by_cases h : tnsL M = []
  · exact .inl ⟨h, by unfold openTn; rw [h]; rfl⟩
  · have hm := minL_mem h
    unfold tnsL at hm
    obtain ⟨h1, h2⟩ := List.mem_filter.1 hm
    obtain ⟨q, hq, e⟩ := List.mem_map.1 h1
    refine .inr ⟨q, hq, e.symm, ?_⟩
    rw [e]
    simpa using h2
theorem tnAt_lasts {k : Nat} {M : Nat → List Ord} (h : BkOk k M) (q : Int) : Lasts (M 0) (M 1) (tnAt M q).vol := by
  have ht : ∀ j, j < 2 → ∀ y ∈ M j, y.trader ≠ 0 := fun j hj y hy => by have := (h.ord j hj y hy).1.trader; omega
  obtain ⟨A1, A2, e1, s1, _⟩ := openAt_front (q := q) (h.srt 0 (by omega)) (ht 0 (by omega))
  obtain ⟨B1, B2, e2, s2, _⟩ := openAt_front (q := q) (h.srt 1 (by omega)) (ht 1 (by omega))
  refine ⟨A1, A2, B1, B2, e1, e2, ?_⟩
  have s1 : openAtO 1 q 0 (M 0) = sumO A1 := s1
  have s2 : openAtO 2 q 0 (M 1) = sumO B1 := s2
  unfold tnAt
  rw [s1, s2]
  split
  · exact .inl ⟨rfl, by assumption⟩
  · exact .inr ⟨rfl, by simp only; omega⟩
theorem lasts_zero (A B : List Ord) : Lasts A B 0 := ⟨[], A, [], B, rfl, rfl, .inl ⟨rfl, Int.le_refl _⟩⟩
theorem openTn_lasts {k : Nat} {M : Nat → List Ord} (h : BkOk k M) : Lasts (M 0) (M 1) (openTn M).vol := by
  rcases openTn_cases M with ⟨_, e⟩ | ⟨q, _, e, _⟩
  · rw [e]; exact lasts_zero _ _
  · rw [e]; exact tnAt_lasts h q
theorem openTn_nonneg (M : Nat → List Ord) : 0 ≤ (openTn M).vol := by
  rcases openTn_cases M with ⟨_, e⟩ | ⟨q, _, e, h⟩
  · rw [e]; exact Int.le_refl _
  · rw [e]; omega
end Go.Proofs.Ytigpgnjgmaoejaa

/- Plain mathematics: every command keeps all books as they should be. No condition. -/
namespace Go.Proofs.Ytigpgnjgmaoejaa

theorem cutO_sub {n : Int} {a : Ord} {A : List Ord} (hA : ∀ y ∈ a :: A, 1 ≤ y.opn ∧ y.opn ≤ 1000000) (hn : 0 ≤ n ∧ n ≤ a.opn) : SubL (a :: A) (cutO n a A) := by
  unfold cutO
  split
  · exact ⟨by rw [List.map_cons]; exact List.sublist_cons_self _ _, fun y hy => hA y (List.mem_cons_of_mem _ hy)⟩
  · have ha := hA a List.mem_cons_self
    refine ⟨List.Sublist.refl _, fun y hy => ?_⟩
    rcases List.mem_cons.1 hy with rfl | hy
    · simp only; omega
    · exact hA y (List.mem_cons_of_mem _ hy)
theorem tradeF_sub (p : Int) : ∀ (f : Nat) (A B : List Ord) (v : Int) (E : List Ev), (∀ y ∈ A, 1 ≤ y.opn ∧ y.opn ≤ 1000000) → (∀ y ∈ B, 1 ≤ y.opn ∧ y.opn ≤ 1000000) → SubL A (tradeF p f A B v E).1 ∧ SubL B (tradeF p f A B v E).2.1
  | 0, _, _, _, _, hA, hB => ⟨SubL.refl hA, SubL.refl hB⟩
  | _ + 1, [], _, _, _, hA, hB => ⟨SubL.refl hA, SubL.refl hB⟩
  | _ + 1, _ :: _, [], _, _, hA, hB => ⟨SubL.refl hA, SubL.refl hB⟩
  | f + 1, a :: A, b :: B, v, E, hA, hB => by
    rw [tradeF]
    split
    · have hm := minO_le a.opn b.opn
      have ha := (hA a List.mem_cons_self).1
      have hb := (hB b List.mem_cons_self).1
      have h1 := cutO_sub (n := minO a.opn b.opn) hA (by omega)
      have h2 := cutO_sub (n := minO a.opn b.opn) hB (by omega)
      have := tradeF_sub p f _ _ (v - minO a.opn b.opn) (E ++ [tradedE a.id b.id p (minO a.opn b.opn)]) h1.2 h2.2
      exact ⟨h1.trans this.1, h2.trans this.2⟩
    · exact ⟨SubL.refl hA, SubL.refl hB⟩
theorem openM_sub {k : Nat} {M : Nat → List Ord} (h : BkOk k M) : ∀ j, j < 2 → SubL (M j) (openM M j) := by
  have := tradeF_sub (openTn M).price ((M 0).length + (M 1).length) (M 0) (M 1) (openTn M).vol [] (h.opns (by omega)) (h.opns (by omega))
  intro j hj
  match j, hj with
  | 0, _ => exact this.1
  | 1, _ => exact this.2
theorem openM_ok {k : Nat} {M : Nat → List Ord} (h : BkOk k M) : BkOk k (openM M) := h.sub (openM_sub h)

theorem WF.upd_ {s : St} (h : WF s) {k : Nat} {tr' : Bool} {td' vol' : Int} {M' : Nat → List Ord} (hb : k < 8 → BkOk k M') (ht : wrp td' = td') (hv : wrp vol' = vol') : WF ⟨upd s.tr k tr', upd s.td k td', upd s.M k M', vol'⟩ := by
  refine ⟨fun i hi => ?_, fun i hi => ?_, hv⟩
  · by_cases e : i = k
    · subst e; simp only [upd_self]; exact hb hi
    · simp only [upd_other e]; exact h.book i hi
  · by_cases e : i = k
    · subst e; simp only [upd_self]; exact ht
    · simp only [upd_other e]; exact h.td i hi
theorem open_wf {s : St} (h : WF s) (k : Nat) : WF (s.open_ k).1 := h.upd_ (fun hk => openM_ok (h.book k hk)) (wrp_wrp _) (wrp_wrp _)
theorem sOpen_wf {s : St} (h : WF s) (c : Cmd) : WF (sOpen s c).1 := by
  unfold sOpen
  split
  · exact h
  · split
    · exact h
    · exact open_wf h _
theorem sClose_wf {s : St} (h : WF s) (c : Cmd) : WF (sClose s c).1 := by
  unfold sClose
  split
  · exact h
  · split
    · exact h
    · exact ⟨h.book, h.td, h.vol⟩
theorem sDo_wf {s : St} (h : WF s) (c : Cmd) : WF (sDo s c).1 := by
  unfold sDo
  split
  · exact (sNew_keeps h c).wf
  · split
    · exact (sCancel_keeps h c).wf
    · split
      · exact (sChange_keeps h c).wf
      · split
        · exact (sCancelAll_keeps h c).wf
        · split
          · exact sOpen_wf h c
          · split
            · exact sClose_wf h c
            · exact h
/-- Commands but for Open and Close. -/
theorem sDo_keeps {s : St} (h : WF s) {c : Cmd} (hc : c.what ≠ 5 ∧ c.what ≠ 6) : Keeps s (sDo s c).1 := by
  unfold sDo
  split
  · exact sNew_keeps h c
  · split
    · exact sCancel_keeps h c
    · split
      · exact sChange_keeps h c
      · split
        · exact sCancelAll_keeps h c
        · rw [if_neg hc.1, if_neg hc.2]
          exact Keeps.refl h

/-- A pit in which nothing was done. -/
def stNil : St := ⟨fun _ => false, fun _ => 0, fun _ _ => [], 0⟩
theorem nil_wf : WF stNil := ⟨fun _ _ => ⟨fun _ _ o ho => (by cases ho), fun _ _ => List.Pairwise.nil, List.nodup_nil, by simp [stNil]⟩, fun _ _ => by simp [stNil, wrp, IntKind.wrap_i64], by simp [stNil, wrp, IntKind.wrap_i64]⟩

/-- Two orders have met in book 8. -/
def cB1 : Cmd := ⟨5, 0, 0, 8, 0, 0, 0, 0⟩
def cB2 : Cmd := ⟨1, 900000001, 901, 8, 2, 1, 50, 2⟩
def cB3 : Cmd := ⟨1, 900000002, 902, 8, 1, 3, 50, 2⟩
def stB1 : St := (sDo stNil cB1).1
def stB2 : St := (sDo stB1 cB2).1
def stB : St := (sDo stB2 cB3).1
theorem stB1_wf : WF stB1 := sDo_wf nil_wf _
theorem stB2_wf : WF stB2 := sDo_wf stB1_wf _
theorem stB_wf : WF stB := sDo_wf stB2_wf _
theorem begunE1 : (sDo stNil cB1).2 = [openedE 0 0] := rfl
theorem begunE2 : (sDo stB1 cB2).2 = [takenE 900000001 2, restsE 900000001 50 2] := rfl
theorem begunE3 : (sDo stB2 cB3).2 = [takenE 900000002 2, tradedE 900000002 900000001 50 2] := rfl
theorem stB_vol : stB.vol = 2 := rfl
theorem stB_M : ∀ k, k < 8 → ∀ j, j < 2 → stB.M k j = []
  | 0, _, 0, _ | 0, _, 1, _ | 1, _, 0, _ | 1, _, 1, _ | 2, _, 0, _ | 2, _, 1, _ | 3, _, 0, _ | 3, _, 1, _ | 4, _, 0, _ | 4, _, 1, _ | 5, _, 0, _ | 5, _, 1, _ | 6, _, 0, _ | 6, _, 1, _ | 7, _, 0, _ | 7, _, 1, _ => rfl
theorem stB_tr : ∀ k, k < 7 → stB.tr k = false
  | 0, _ | 1, _ | 2, _ | 3, _ | 4, _ | 5, _ | 6, _ => rfl
theorem stB_td : ∀ k, k < 7 → stB.td k = 0
  | 0, _ | 1, _ | 2, _ | 3, _ | 4, _ | 5, _ | 6, _ => rfl
end Go.Proofs.Ytigpgnjgmaoejaa
