/- Plain mathematics for Opened: an opening is the best there is, all its trades are at its price, and nothing is left that could trade. Conditions: the book is as it should be. -/
import Derived.Test.YtigpgnjgmaoejaaGreatFairMN
import Derived.Test.YtigpgnjgmaoejaaGreatTrAB
import Derived.Test.YtigpgnjgmaoejaaGreatProgQR
namespace Go.Proofs.YtigpgnjgmaoejaaGreat

/-- What a side's levels have at a price. -/
def levAt (sd q : Int) (B : List Lev) : Int := ((B.filter fun l => !beatsB sd q l.price).map Lev.count).sum
theorem levAt_append (sd q : Int) (A B : List Lev) : levAt sd q (A ++ B) = levAt sd q A + levAt sd q B := by
  unfold levAt
  rw [List.filter_append, List.map_append, List.sum_append]
theorem levAt_one (sd q : Int) (l : Lev) : levAt sd q [l] = if beatsB sd q l.price = false then l.count else 0 := by
  unfold levAt
  cases h : beatsB sd q l.price <;> simp [h]
theorem levAt_add (sd q : Int) (l : List Lev) (x : Ord) : levAt sd q (addLev l x) = levAt sd q l + if beatsB sd q x.price = false then x.opn else 0 := by
  rcases List.eq_nil_or_concat l with rfl | ⟨l0, z, rfl⟩
  · show levAt sd q [⟨x.price, x.opn, 1⟩] = _
    rw [levAt_one]
    simp [levAt]
  · rw [List.concat_eq_append]
    by_cases h : z.price = x.price
    · rw [addLev_same h, levAt_append, levAt_append, levAt_one, levAt_one, h]
      simp only
      split <;> omega
    · rw [addLev_new h, levAt_append, levAt_one]
theorem levAt_fold {sd q : Int} : ∀ {L : List Ord} {l : List Lev}, (∀ y ∈ L, y.trader ≠ 0) → levAt sd q (L.foldl addLev l) = levAt sd q l + openAtO sd q 0 L
  | [], l, _ => by simp [openAtO]
  | x :: L, l, h => by
    rw [List.foldl_cons, levAt_fold fun y hy => h y (List.mem_cons_of_mem _ hy), levAt_add]
    have hx := h x List.mem_cons_self
    have e : openAtO sd q 0 (x :: L) = (if beatsB sd q x.price = false then x.opn else 0) + openAtO sd q 0 L := by
      unfold openAtO
      cases hb : beatsB sd q x.price <;> simp [hb, hx]
    rw [e]
    omega
theorem levAt_take {sd q : Int} {B : List Lev} {k : Nat} (hk : k < B.length) : levAt sd q (B.take (k + 1)) = levAt sd q (B.take k) + if beatsB sd q B[k].price = false then B[k].count else 0 := by
  rw [List.take_succ_eq_append_getElem hk, levAt_append, levAt_one]
theorem levAt_le {sd q : Int} : ∀ {B : List Lev}, (∀ l ∈ B, 0 ≤ l.count) → 0 ≤ levAt sd q B
  | [], _ => by simp [levAt]
  | x :: B, h => by
    have h1 := levAt_le (sd := sd) (q := q) (B := B) fun y hy => h y (List.mem_cons_of_mem _ hy)
    have h2 := h x List.mem_cons_self
    have := levAt_append sd q [x] B
    rw [List.singleton_append, levAt_one] at this
    split at this <;> omega
theorem addLev_pos {l : List Lev} {x : Ord} (h : ∀ z ∈ l, 0 ≤ z.count) (hx : 0 ≤ x.opn) : ∀ z ∈ addLev l x, 0 ≤ z.count := by
  rcases List.eq_nil_or_concat l with rfl | ⟨l0, y, rfl⟩
  · intro z hz
    have : z = ⟨x.price, x.opn, 1⟩ := by simpa [addLev] using hz
    rw [this]; exact hx
  · rw [List.concat_eq_append] at h ⊢
    intro z hz
    by_cases hp : y.price = x.price
    · rw [addLev_same hp] at hz
      rcases List.mem_append.1 hz with hz | hz
      · exact h z (List.mem_append_left _ hz)
      · have hy := h y (by simp)
        simp at hz
        rw [hz]
        simp only
        omega
    · rw [addLev_new hp] at hz
      rcases List.mem_append.1 hz with hz | hz
      · exact h z hz
      · simp at hz
        rw [hz]
        exact hx
theorem fold_pos : ∀ {L : List Ord} {l : List Lev}, (∀ z ∈ l, 0 ≤ z.count) → (∀ y ∈ L, 0 ≤ y.opn) → ∀ z ∈ L.foldl addLev l, 0 ≤ z.count
  | [], _, h, _ => h
  | x :: L, l, h, hL => by
    rw [List.foldl_cons]
    exact fold_pos (L := L) (l := addLev l x) (addLev_pos h (hL x List.mem_cons_self)) fun y hy => hL y (List.mem_cons_of_mem _ hy)

/-- An opening comes before another. -/
def BetterT (x y : Tn) : Prop := y.vol < x.vol ∨ (x.vol = y.vol ∧ (x.rest < y.rest ∨ (x.rest = y.rest ∧ x.price < y.price)))
theorem cmpT_lt (x y : Tn) : cmpT x y < 0 ↔ BetterT x y := by
  unfold cmpT orI cmpI BetterT
  split <;> split at * <;> (try split at *) <;> (try split at *) <;> (try split at *) <;> omega
theorem minT_best : ∀ {l : List Tn} {m : Tn} {t : Tn}, ¬ BetterT t m ∨ t ∈ l → ¬ BetterT t (minT m l)
  | [], m, t, h => h.elim id fun h => by cases h
  | x :: l, m, t, h => by
    show ¬ BetterT t (minT (if cmpT x m < 0 then x else m) l)
    by_cases hx : cmpT x m < 0
    · rw [if_pos hx]
      rcases h with h | h
      · refine minT_best (.inl fun hb => h ?_)
        rw [cmpT_lt] at hx
        unfold BetterT at *
        omega
      · rcases List.mem_cons.1 h with rfl | h
        · refine minT_best (.inl fun hb => ?_)
          unfold BetterT at hb
          omega
        · exact minT_best (.inr h)
    · rw [if_neg hx]
      rcases h with h | h
      · exact minT_best (.inl h)
      · rcases List.mem_cons.1 h with rfl | h
        · exact minT_best (.inl fun hb => hx ((cmpT_lt _ _).2 hb))
        · exact minT_best (.inr h)
theorem minL_best {l : List Tn} {t : Tn} (h : t ∈ l) : ¬ BetterT t (minL l) := by
  cases l with
  | nil => cases h
  | cons x l =>
    show ¬ BetterT t (minT x l)
    rcases List.mem_cons.1 h with rfl | h
    · exact minT_best (.inl fun hb => by unfold BetterT at hb; omega)
    · exact minT_best (.inr h)
theorem open_buyAt {L : List Ord} {q : Int} (h : ∀ y ∈ L, y.trader ≠ 0) : openAtO 1 q 0 L = buyAt L q := by
  unfold openAtO buyAt
  congr 2
  refine List.filter_congr fun o ho => ?_
  rw [Bool.eq_iff_iff]
  simp [beatsB, h o ho]
theorem open_sellAt {L : List Ord} {q : Int} (h : ∀ y ∈ L, y.trader ≠ 0) : openAtO 2 q 0 L = sellAt L q := by
  unfold openAtO sellAt
  congr 2
  refine List.filter_congr fun o ho => ?_
  rw [Bool.eq_iff_iff]
  simp [beatsB, h o ho]
theorem BkOk.nobody {k : Nat} {M : Nat → List Ord} (h : BkOk k M) : ∀ j, j < 2 → ∀ y ∈ M j, y.trader ≠ 0 := fun j hj y hy => by have := (h.ord j hj y hy).1.trader; omega
/-- No price is better than that of the opening. -/
theorem open_best {k : Nat} {M : Nat → List Ord} (h : BkOk k M) (q : Int) : (tnAt M q).vol ≤ (openTn M).vol ∧ (0 < (openTn M).vol → (tnAt M q).vol = (openTn M).vol → ¬ ((tnAt M q).rest < (openTn M).rest ∨ ((tnAt M q).rest = (openTn M).rest ∧ q < (openTn M).price))) := by
  have h0 := h.nobody 0 (by omega)
  have h1 := h.nobody 1 (by omega)
  by_cases hv : 0 < (tnAt M q).vol
  · have hs : 0 < sellAt (M 1) q := by
      rw [← open_sellAt h1]
      unfold tnAt at hv
      split at hv <;> simp only at hv <;> omega
    obtain ⟨d, hd, hdq, e1, e2⟩ := brk_down (B := M 0) hs
    rw [← open_buyAt h0, ← open_buyAt h0] at e1
    rw [← open_sellAt h1, ← open_sellAt h1] at e2
    have ev : (tnAt M d).vol = (tnAt M q).vol ∧ (tnAt M d).rest = (tnAt M q).rest := by
      unfold tnAt
      rw [e1, e2]
      split <;> exact ⟨rfl, rfl⟩
    have ep : (tnAt M d).price = d := by unfold tnAt; split <;> rfl
    have hm : tnAt M d ∈ tnsL M := by
      unfold tnsL
      exact List.mem_filter.2 ⟨List.mem_map_of_mem (f := tnAt M) hd, by simp; omega⟩
    have hb := minL_best hm
    have hT : minL (tnsL M) = openTn M := rfl
    rw [hT] at hb
    unfold BetterT at hb
    rw [ep] at hb
    omega
  · have := openTn_nonneg M
    omega
theorem openTn_zero {k : Nat} {M : Nat → List Ord} (h : BkOk k M) : ((openTn M).price = 0 ↔ (openTn M).vol = 0) ∧ 0 ≤ (openTn M).price ∧ (openTn M).price ≤ 1000001 ∧ (0 < (openTn M).vol → openTn M = tnAt M (openTn M).price) := by
  rcases openTn_cases M with ⟨_, e⟩ | ⟨q, hq, e, hv⟩
  · rw [e]
    exact ⟨⟨fun _ => rfl, fun _ => rfl⟩, Int.le_refl _, by decide, fun h => absurd h (by decide)⟩
  · have ep : (tnAt M q).price = q := by unfold tnAt; split <;> rfl
    have hq1 : 1 ≤ q ∧ q ≤ 1000001 := by
      unfold turnsL brks at hq
      rcases List.mem_append.1 hq with hq | hq
      · obtain ⟨o, ho, rfl⟩ := List.mem_map.1 hq
        have := (h.ord 0 (by omega) o ho).1.price
        omega
      · obtain ⟨o, ho, rfl⟩ := List.mem_map.1 hq
        have := (h.ord 1 (by omega) o ho).1.price
        omega
    rw [e, ep]
    exact ⟨⟨fun h => by omega, fun h => by omega⟩, by omega, by omega, fun _ => rfl⟩
theorem openTn_bound {k : Nat} {M : Nat → List Ord} (h : BkOk k M) : (openTn M).vol ≤ 200000000 := by
  rcases openTn_cases M with ⟨_, e⟩ | ⟨q, hq, e, hv⟩
  · rw [e]; decide
  · rw [e]
    have h1 := openAt_bound (sd := 1) (p := q) (own := 0) (M := M 0) fun o ho => by have := h.opns (j := 0) (by omega) o ho; omega
    have hc := h.cap
    unfold tnAt
    split
    · simp only; omega
    · simp only; omega

theorem open_cons {sd q : Int} {x : Ord} {L : List Ord} (hx : x.trader ≠ 0) (hb : beatsB sd q x.price = false) : openAtO sd q 0 (x :: L) = x.opn + openAtO sd q 0 L := by
  unfold openAtO
  rw [List.filter_cons_of_pos (by simp [hx, hb])]
  simp
theorem open_cut {sd q n : Int} {a : Ord} {A : List Ord} (ht : a.trader ≠ 0) (hb : beatsB sd q a.price = false) : openAtO sd q 0 (a :: A) = n + openAtO sd q 0 (cutO n a A) := by
  rw [open_cons ht hb]
  unfold cutO
  split
  · omega
  · rw [open_cons (x := { a with opn := a.opn - n }) ht hb]
    simp only
    omega
/-- What is still there at a price had all that was traded ahead of it. -/
def Ahead (sd : Int) (v : Int) (A A' : List Ord) : Prop := ∀ q, (∃ y ∈ A', beatsB sd q y.price = false) → openAtO sd q 0 A = v + openAtO sd q 0 A'
theorem Ahead.cut {sd n v : Int} {a : Ord} {A A' : List Ord} (hs : Srt sd (a :: A)) (ht : a.trader ≠ 0) (hsub : SubL (a :: A) A') (h : Ahead sd v (cutO n a A) A') : Ahead sd (n + v) (a :: A) A' := by
  intro q hq
  have h1 := h q hq
  obtain ⟨y, hy, hb⟩ := hq
  obtain ⟨z, hz, e⟩ := hsub.mem hy
  simp only [key, Prod.mk.injEq] at e
  have ha : beatsB sd q a.price = false := by
    rw [e.2.2.2.2] at hb
    rcases List.mem_cons.1 hz with rfl | hz
    · exact hb
    · exact nb_trans hb ((List.pairwise_cons.1 hs).1 z hz)
  rw [open_cut (n := n) ht ha, h1]
  omega
/-- What the trades of an opening are. -/
structure Trs (p v : Int) (n : Nat) (E E' : List Ev) : Prop where
  ex : ∃ N, E' = E ++ N ∧ (∀ x ∈ N, x.what = 3 ∧ x.price = p ∧ 1 ≤ x.count) ∧ sumT N = v ∧ N.length ≤ n
theorem tradeF_all (p : Int) : ∀ (f : Nat) (A B : List Ord) (v : Int) (E : List Ev), Lasts A B v → 0 ≤ v → (∀ y ∈ A, (1 ≤ y.opn ∧ y.opn ≤ 1000000) ∧ y.trader ≠ 0) → (∀ y ∈ B, (1 ≤ y.opn ∧ y.opn ≤ 1000000) ∧ y.trader ≠ 0) → A.length + B.length ≤ f → Srt 1 A → Srt 2 B →
    Trs p v f E (tradeF p f A B v E).2.2 ∧ Ahead 1 v A (tradeF p f A B v E).1 ∧ Ahead 2 v B (tradeF p f A B v E).2.1
  | f, A, B, v, E, hl, hv, hA, hB, hf, sA, sB => by
    by_cases h0 : 0 < v
    · obtain ⟨a, A0, b, B0, rfl, rfl⟩ := hl.head h0
      obtain ⟨f', rfl⟩ : ∃ f', f = f' + 1 := ⟨f - 1, by simp at hf; omega⟩
      obtain ⟨h1, h2, h3⟩ := hl.step h0 (fun y hy => (hA y hy).1.1) (fun y hy => (hB y hy).1.1)
      have hm := minO_le a.opn b.opn
      have cA := cutO_sub (n := minO a.opn b.opn) (fun y hy => (hA y hy).1) (by omega : 0 ≤ minO a.opn b.opn ∧ minO a.opn b.opn ≤ a.opn)
      have cB := cutO_sub (n := minO a.opn b.opn) (fun y hy => (hB y hy).1) (by omega : 0 ≤ minO a.opn b.opn ∧ minO a.opn b.opn ≤ b.opn)
      have kA : ∀ y ∈ cutO (minO a.opn b.opn) a A0, (1 ≤ y.opn ∧ y.opn ≤ 1000000) ∧ y.trader ≠ 0 := fun y hy => ⟨cA.2 y hy, by
        obtain ⟨z, hz, e⟩ := cA.mem hy
        simp only [key, Prod.mk.injEq] at e
        rw [e.2.1]; exact (hA z hz).2⟩
      have kB : ∀ y ∈ cutO (minO a.opn b.opn) b B0, (1 ≤ y.opn ∧ y.opn ≤ 1000000) ∧ y.trader ≠ 0 := fun y hy => ⟨cB.2 y hy, by
        obtain ⟨z, hz, e⟩ := cB.mem hy
        simp only [key, Prod.mk.injEq] at e
        rw [e.2.1]; exact (hB z hz).2⟩
      have hlen : (cutO (minO a.opn b.opn) a A0).length + (cutO (minO a.opn b.opn) b B0).length ≤ f' := by
        simp only [List.length_cons] at hf
        unfold cutO
        have := hm.2.2
        split <;> split <;> (try simp only [List.length_cons]) <;> omega
      have ih := tradeF_all p f' _ _ (v - minO a.opn b.opn) (E ++ [tradedE a.id b.id p (minO a.opn b.opn)]) h3 (by omega) kA kB hlen (cA.srt sA) (cB.srt sB)
      have hsub := tradeF_sub p f' (cutO (minO a.opn b.opn) a A0) (cutO (minO a.opn b.opn) b B0) (v - minO a.opn b.opn) (E ++ [tradedE a.id b.id p (minO a.opn b.opn)]) cA.2 cB.2
      rw [tradeF, if_pos h0]
      obtain ⟨⟨N, e1, e2, e3, e4⟩, i1, i2⟩ := ih
      refine ⟨⟨tradedE a.id b.id p (minO a.opn b.opn) :: N, by rw [e1]; simp, fun x hx => ?_, ?_, by simp; omega⟩, ?_, ?_⟩
      · rcases List.mem_cons.1 hx with rfl | hx
        · exact ⟨rfl, rfl, h1⟩
        · exact e2 x hx
      · show (if (tradedE a.id b.id p (minO a.opn b.opn)).what = 3 then (tradedE a.id b.id p (minO a.opn b.opn)).count else 0) + sumT N = v
        rw [if_pos (show (tradedE a.id b.id p (minO a.opn b.opn)).what = 3 from rfl), e3]
        simp only [tradedE]
        omega
      · have := Ahead.cut sA (hA a List.mem_cons_self).2 (cA.trans hsub.1) i1
        rw [show minO a.opn b.opn + (v - minO a.opn b.opn) = v by omega] at this
        exact this
      · have := Ahead.cut sB (hB b List.mem_cons_self).2 (cB.trans hsub.2) i2
        rw [show minO a.opn b.opn + (v - minO a.opn b.opn) = v by omega] at this
        exact this
    · have hv0 : v = 0 := by omega
      subst hv0
      have e : tradeF p f A B 0 E = (A, B, E) := by
        cases f with
        | zero => rfl
        | succ f =>
          cases A with
          | nil => rfl
          | cons a A =>
            cases B with
            | nil => rfl
            | cons b B => rw [tradeF, if_neg (by omega)]
      rw [e]
      exact ⟨⟨[], by simp, by simp, rfl, Nat.zero_le _⟩, fun q _ => by simp only; omega, fun q _ => by simp only; omega⟩
theorem openAtO_mem {sd q : Int} {L : List Ord} (hp : ∀ y ∈ L, 1 ≤ y.opn ∧ y.trader ≠ 0) {y : Ord} (hy : y ∈ L) (hb : beatsB sd q y.price = false) : 1 ≤ openAtO sd q 0 L := by
  induction L with
  | nil => cases hy
  | cons x L ih =>
    have hx := hp x List.mem_cons_self
    have hL := fun z hz => hp z (List.mem_cons_of_mem _ hz)
    have hnn : 0 ≤ openAtO sd q 0 L := by
      clear ih hy hb hx
      induction L with
      | nil => simp [openAtO]
      | cons z L ih2 =>
        have hz := hL z List.mem_cons_self
        have := ih2 (fun w hw => hp w (by rcases List.mem_cons.1 hw with rfl | hw <;> simp_all)) (fun w hw => hL w (List.mem_cons_of_mem _ hw))
        cases hbz : beatsB sd q z.price with
        | false => rw [open_cons hz.2 hbz]; omega
        | true =>
          unfold openAtO at this ⊢
          rw [List.filter_cons_of_neg (by simp [hbz])]
          exact this
    cases hbx : beatsB sd q x.price with
    | false => rw [open_cons hx.2 hbx]; omega
    | true =>
      rcases List.mem_cons.1 hy with rfl | hy
      · rw [hb] at hbx; cases hbx
      · have := ih hL hy
        unfold openAtO at this ⊢
        rw [List.filter_cons_of_neg (by simp [hbx])]
        exact this
/-- What an opening leads to. -/
theorem open_all {k : Nat} {M : Nat → List Ord} (h : BkOk k M) : Unx (openM M) ∧ ∃ N, openE M = N ++ [openedE (openTn M).price (openTn M).vol] ∧ (∀ x ∈ N, x.what = 3 ∧ x.price = (openTn M).price ∧ 1 ≤ x.count) ∧ sumT N = (openTn M).vol ∧ N.length ≤ 200 := by
  have hn := h.nobody
  have ha := tradeF_all (openTn M).price ((M 0).length + (M 1).length) (M 0) (M 1) (openTn M).vol [] (openTn_lasts h) (openTn_nonneg M)
    (fun y hy => ⟨h.opns (j := 0) (by omega) y hy, hn 0 (by omega) y hy⟩) (fun y hy => ⟨h.opns (j := 1) (by omega) y hy, hn 1 (by omega) y hy⟩) (Nat.le_refl _) (h.srt 0 (by omega)) (h.srt 1 (by omega))
  have hok := openM_ok h
  obtain ⟨⟨N, e1, e2, e3, e4⟩, hA, hB⟩ := ha
  have hcap := h.cap
  refine ⟨fun a ha b hb => ?_, N, by unfold openE tradeB; rw [e1]; simp, e2, e3, by omega⟩
  apply Int.not_le.1
  intro hle
  have ha0 : a ∈ openM M 0 := ha
  have hb0 : b ∈ openM M 1 := hb
  have pa : ∀ y ∈ openM M 0, 1 ≤ y.opn ∧ y.trader ≠ 0 := fun y hy => ⟨(hok.opns (j := 0) (by omega) y hy).1, hok.nobody 0 (by omega) y hy⟩
  have pb : ∀ y ∈ openM M 1, 1 ≤ y.opn ∧ y.trader ≠ 0 := fun y hy => ⟨(hok.opns (j := 1) (by omega) y hy).1, hok.nobody 1 (by omega) y hy⟩
  have ba : beatsB 1 b.price a.price = false := by simp [beatsB]; omega
  have bb : beatsB 2 b.price b.price = false := by simp [beatsB]
  have q1 := hA b.price ⟨a, ha0, ba⟩
  have q2 := hB b.price ⟨b, hb0, bb⟩
  have r1 := openAtO_mem pa ha0 ba
  have r2 := openAtO_mem pb hb0 bb
  have hbest := (open_best h b.price).1
  have s1 : openAtO 1 b.price 0 (M 0) = (openTn M).vol + openAtO 1 b.price 0 (openM M 0) := q1
  have s2 : openAtO 2 b.price 0 (M 1) = (openTn M).vol + openAtO 2 b.price 0 (openM M 1) := q2
  unfold tnAt at hbest
  split at hbest <;> simp only at hbest <;> omega
end Go.Proofs.YtigpgnjgmaoejaaGreat
