/- Plain mathematics: a side of a book as a sorted list (sideOf) of what rests, and what the document's searches for the best one come to over it. No condition. -/
import Derived.Test.YtigpgnjgmaoejaaRefM
import Derived.Test.YtigpgnjgmaoejaaRefP
namespace Go.Proofs.Ytigpgnjgmaoejaa

def inSide (b s : Int) (o : Ord) : Bool := o.book == b && o.side == s

/-- An order that came earlier goes in ahead of all that do not beat it. -/
def insF (s : Int) (x : Ord) : List Ord → List Ord
  | [] => [x]
  | y :: M => if beatsB s y.price x.price = true then y :: insF s x M else x :: y :: M

/-- One that comes later goes in behind all that it does not beat. -/
def insB (s : Int) (x : Ord) : List Ord → List Ord
  | [] => [x]
  | y :: M => if beatsB s x.price y.price = true then x :: y :: M else y :: insB s x M

/-- What rests on a side of a book, the best one first. -/
def sideOf (b s : Int) : List Ord → List Ord
  | [] => []
  | x :: L => if inSide b s x = true then insF s x (sideOf b s L) else sideOf b s L

def Srt (s : Int) (M : List Ord) : Prop := M.Pairwise fun a b => beatsB s b.price a.price = false

theorem nb_trans {s p q r : Int} (h : beatsB s p q = false) (k : beatsB s q r = false) : beatsB s p r = false := by
  simp only [beatsB, Bool.or_eq_false_iff, Bool.and_eq_false_iff, beq_eq_false_iff_ne, decide_eq_false_iff_not, ne_eq] at *
  omega
theorem bt_trans {s p q r : Int} (h : beatsB s p q = true) (k : beatsB s q r = true) : beatsB s p r = true := by
  simp only [beatsB, Bool.or_eq_true, Bool.and_eq_true, beq_iff_eq, decide_eq_true_eq] at *
  omega
theorem bt_asym {s p q : Int} (h : beatsB s p q = true) : beatsB s q p = false := by
  simp only [beatsB, Bool.or_eq_true, Bool.and_eq_true, beq_iff_eq, decide_eq_true_eq, Bool.or_eq_false_iff, Bool.and_eq_false_iff, beq_eq_false_iff_ne, decide_eq_false_iff_not, ne_eq] at *
  omega

theorem insF_perm (s : Int) (x : Ord) : ∀ M : List Ord, (insF s x M).Perm (x :: M)
  | [] => List.Perm.refl _
  | y :: M => by
    unfold insF
    split
    · exact ((insF_perm s x M).cons y).trans (List.Perm.swap x y M)
    · exact List.Perm.refl _
theorem sideOf_perm (b s : Int) : ∀ L : List Ord, (sideOf b s L).Perm (L.filter (inSide b s))
  | [] => List.Perm.refl _
  | x :: L => by
    unfold sideOf
    by_cases h : inSide b s x = true
    · rw [if_pos h, List.filter_cons_of_pos h]
      exact (insF_perm s x _).trans ((sideOf_perm b s L).cons x)
    · rw [if_neg h, List.filter_cons_of_neg h]
      exact sideOf_perm b s L
theorem mem_sideOf {b s : Int} {L : List Ord} {o : Ord} : o ∈ sideOf b s L ↔ o ∈ L ∧ inSide b s o = true := by
  rw [(sideOf_perm b s L).mem_iff, List.mem_filter]
theorem sideOf_len (b s : Int) (L : List Ord) : (sideOf b s L).length = restN L b s := (sideOf_perm b s L).length_eq
theorem sideOf_nodup {b s : Int} {L : List Ord} (h : (L.map Ord.id).Nodup) : ((sideOf b s L).map Ord.id).Nodup := by
  rw [((sideOf_perm b s L).map Ord.id).nodup_iff]
  exact h.sublist (List.filter_sublist.map Ord.id)

theorem mem_insF {s : Int} {x y : Ord} {M : List Ord} : y ∈ insF s x M ↔ y = x ∨ y ∈ M := by
  rw [(insF_perm s x M).mem_iff, List.mem_cons]
theorem srt_insF {s : Int} {x : Ord} : ∀ {M : List Ord}, Srt s M → Srt s (insF s x M)
  | [], _ => List.pairwise_singleton _ _
  | y :: M, h => by
    obtain ⟨h1, h2⟩ := List.pairwise_cons.1 h
    unfold insF
    split
    · rename_i hb
      refine List.pairwise_cons.2 ⟨fun z hz => ?_, srt_insF h2⟩
      rcases mem_insF.1 hz with rfl | hz
      · exact bt_asym hb
      · exact h1 z hz
    · rename_i hb
      have hb' : beatsB s y.price x.price = false := by simpa using hb
      refine List.pairwise_cons.2 ⟨fun z hz => ?_, h⟩
      rcases List.mem_cons.1 hz with rfl | hz
      · exact hb'
      · exact nb_trans (h1 z hz) hb'
theorem srt_sideOf (b s : Int) : ∀ L : List Ord, Srt s (sideOf b s L)
  | [] => List.Pairwise.nil
  | x :: L => by
    unfold sideOf
    split
    · exact srt_insF (srt_sideOf b s L)
    · exact srt_sideOf b s L

theorem insF_head {s : Int} {x : Ord} : ∀ {M : List Ord}, (∀ y ∈ M, beatsB s y.price x.price = false) → insF s x M = x :: M
  | [], _ => rfl
  | y :: M, h => by
    unfold insF
    rw [if_neg (by rw [h y (by simp)]; decide)]

theorem filter_insF {s : Int} {x : Ord} (q : Ord → Bool) : ∀ {M : List Ord}, Srt s M → (insF s x M).filter q = if q x = true then insF s x (M.filter q) else M.filter q
  | [], _ => by simp only [insF, List.filter_cons, List.filter_nil]
  | y :: M, h => by
    obtain ⟨h1, h2⟩ := List.pairwise_cons.1 h
    by_cases hb : beatsB s y.price x.price = true
    · have e : insF s x (y :: M) = y :: insF s x M := by simp [insF, hb]
      rw [e, List.filter_cons, filter_insF q h2, List.filter_cons]
      by_cases hy : q y = true <;> by_cases hx : q x = true <;> simp [hy, hx, insF, hb]
    · have hb' : beatsB s y.price x.price = false := by simpa using hb
      have ha : ∀ z ∈ y :: M, beatsB s z.price x.price = false := by
        intro z hz
        rcases List.mem_cons.1 hz with rfl | hz
        · exact hb'
        · exact nb_trans (h1 z hz) hb'
      rw [insF_head ha, List.filter_cons]
      split
      · rw [insF_head fun z hz => ha z (List.mem_filter.1 hz).1]
      · rfl
theorem sideOf_filter (b s : Int) (q : Ord → Bool) : ∀ L : List Ord, sideOf b s (L.filter q) = (sideOf b s L).filter q
  | [] => rfl
  | x :: L => by
    by_cases hx : q x = true
    · rw [List.filter_cons_of_pos hx]
      simp only [sideOf]
      split
      · rw [filter_insF q (srt_sideOf b s L), if_pos hx, sideOf_filter b s q L]
      · exact sideOf_filter b s q L
    · rw [List.filter_cons_of_neg hx]
      simp only [sideOf]
      split
      · rw [filter_insF q (srt_sideOf b s L), if_neg hx, sideOf_filter b s q L]
      · exact sideOf_filter b s q L

theorem map_insF {s : Int} {x : Ord} {f : Ord → Ord} (hf : ∀ o, (f o).price = o.price) : ∀ {M : List Ord}, (insF s x M).map f = insF s (f x) (M.map f)
  | [] => rfl
  | y :: M => by
    simp only [insF, List.map_cons, hf]
    split
    · rw [List.map_cons, map_insF hf]
    · rfl
theorem sideOf_map {b s : Int} {f : Ord → Ord} (hf : ∀ o, (f o).price = o.price) (hb : ∀ o, (f o).book = o.book) (hs : ∀ o, (f o).side = o.side) : ∀ L : List Ord, sideOf b s (L.map f) = (sideOf b s L).map f
  | [] => rfl
  | x :: L => by
    have e : inSide b s (f x) = inSide b s x := by simp only [inSide, hb, hs]
    simp only [sideOf, List.map_cons, e]
    split
    · rw [map_insF hf, sideOf_map hf hb hs]
    · exact sideOf_map hf hb hs L

theorem ins_comm {s : Int} {x y : Ord} : ∀ {M : List Ord}, insF s y (insB s x M) = insB s x (insF s y M)
  | [] => by
    simp only [insF, insB]
    try (split <;> rfl)
  | z :: M => by
    by_cases h1 : beatsB s x.price z.price = true <;> by_cases h2 : beatsB s z.price y.price = true
    · have h3 := bt_trans h1 h2
      simp [insF, insB, h1, h2, h3]
    · by_cases h3 : beatsB s x.price y.price = true <;> simp [insF, insB, h1, h2, h3]
    · simp [insF, insB, h1, h2, ins_comm (M := M)]
    · have h3 : beatsB s x.price y.price = false := nb_trans (by simpa using h1) (by simpa using h2)
      simp [insF, insB, h1, h2, h3]
theorem sideOf_snoc {b s : Int} {x : Ord} : ∀ L : List Ord, sideOf b s (L ++ [x]) = if inSide b s x = true then insB s x (sideOf b s L) else sideOf b s L
  | [] => by
    simp only [List.nil_append, sideOf]
    split <;> rfl
  | y :: L => by
    simp only [List.cons_append, sideOf, sideOf_snoc L]
    by_cases hx : inSide b s x = true <;> by_cases hy : inSide b s y = true <;> simp [hx, hy, ins_comm]

/-- The place that is looked for from the end. -/
def placeTo (s p : Int) (M : List Ord) : Nat → Nat
  | 0 => 0
  | k + 1 => if beatsB s p (priceAt M k) = true then placeTo s p M k else k + 1
def placeO (s p : Int) (M : List Ord) : Nat := placeTo s p M M.length
theorem placeTo_le (s p : Int) (M : List Ord) : ∀ k, placeTo s p M k ≤ k
  | 0 => Nat.le_refl _
  | k + 1 => by
    unfold placeTo
    split
    · have := placeTo_le s p M k; omega
    · omega
theorem placeTo_hi {s p : Int} {M : List Ord} : ∀ {k j : Nat}, placeTo s p M k ≤ j → j < k → beatsB s p (priceAt M j) = true
  | 0, j, _, h => by omega
  | k + 1, j, h, hj => by
    unfold placeTo at h
    split at h
    · rename_i hb
      by_cases he : j = k
      · subst he; exact hb
      · exact placeTo_hi h (by omega)
    · omega
theorem placeTo_lo {s p : Int} {M : List Ord} : ∀ {k : Nat}, placeTo s p M k ≠ 0 → beatsB s p (priceAt M (placeTo s p M k - 1)) = false
  | 0, h => absurd rfl h
  | k + 1, h => by
    unfold placeTo at h ⊢
    split
    · rename_i hb
      rw [if_pos hb] at h
      exact placeTo_lo h
    · rename_i hb
      simpa using hb
theorem insB_append {s : Int} {x : Ord} {B : List Ord} : ∀ {A : List Ord}, (∀ y ∈ A, beatsB s x.price y.price = false) → insB s x (A ++ B) = A ++ insB s x B
  | [], _ => rfl
  | y :: A, h => by
    rw [List.cons_append, insB, if_neg (by rw [h y (by simp)]; decide), insB_append fun z hz => h z (by simp [hz])]
    rfl
theorem insB_place {s : Int} {x : Ord} {M : List Ord} (hM : Srt s M) : insB s x M = M.take (placeO s x.price M) ++ [x] ++ M.drop (placeO s x.price M) := by
  have hle := placeTo_le s x.price M M.length
  have hlo := @placeTo_lo s x.price M M.length
  have hhi := @placeTo_hi s x.price M M.length
  unfold placeO
  generalize placeTo s x.price M M.length = k at *
  have e : insB s x M = insB s x (M.take k ++ M.drop k) := by rw [List.take_append_drop]
  rw [e, insB_append, List.append_assoc]
  · congr 1
    by_cases hk : k < M.length
    · have h1 := hhi (Nat.le_refl k) hk
      rw [priceAt_eq hk] at h1
      rw [List.drop_eq_getElem_cons hk, insB, if_pos h1]
      rfl
    · rw [List.drop_of_length_le (by omega)]
      rfl
  · intro y hy
    obtain ⟨j, hj, rfl⟩ := List.getElem_of_mem hy
    have hj2 : j < k ∧ j < M.length := by rw [List.length_take] at hj; omega
    have h1 := hlo (by omega)
    rw [priceAt_eq (by omega)] at h1
    rw [List.getElem_take]
    by_cases he : j = k - 1
    · subst he; exact h1
    · exact nb_trans h1 (List.pairwise_iff_getElem.1 hM j (k - 1) hj2.2 (by omega) (by omega))

/-- The best one. -/
structure BestAt (L : List Ord) (b s : Int) (k i : Nat) : Prop where
  lt : i < k
  ln : i < L.length
  is : inSide b s L[i] = true
  all : ∀ j (h : j < L.length), j < k → inSide b s L[j] = true → (j < i → beatsB s L[i].price L[j].price = true) ∧ (i < j → beatsB s L[j].price L[i].price = false)

theorem bestTo_spec {L : List Ord} {b s : Int} : ∀ {k : Nat}, k ≤ L.length → match bestTo L b s k with
    | none => ∀ j (h : j < L.length), j < k → inSide b s L[j] = false
    | some i => BestAt L b s k i
  | 0, _ => by intro j _ h; omega
  | k + 1, hk => by
    have ih := bestTo_spec (L := L) (b := b) (s := s) (k := k) (by omega)
    have hk' : k < L.length := by omega
    rw [bestTo_succ hk']
    unfold bestStep
    by_cases ho : inSide b s L[k] = true
    · have ho' : (L[k].book == b && L[k].side == s) = true := ho
      rw [if_pos ho']
      cases hb : bestTo L b s k with
      | none =>
        rw [hb] at ih
        refine ⟨by omega, hk', ho, fun j h hj hs => ?_⟩
        by_cases he : j = k
        · subst he; exact ⟨fun h => by omega, fun h => by omega⟩
        · have := ih j h (by omega); rw [this] at hs; cases hs
      | some i =>
        rw [hb] at ih
        obtain ⟨h1, h2, h3, h4⟩ := ih
        simp only
        rw [priceAt_eq h2]
        by_cases hw : beatsB s L[k].price L[i].price = true
        · rw [if_pos hw]
          refine ⟨by omega, hk', ho, fun j h hj hs => ⟨fun hjk => ?_, fun h => by omega⟩⟩
          have := h4 j h hjk hs
          rcases Nat.lt_trichotomy j i with hji | rfl | hji
          · exact bt_trans hw (this.1 hji)
          · exact hw
          · have h5 := this.2 hji
            by_cases h6 : beatsB s L[k].price L[j].price = true
            · exact h6
            · have := nb_trans (by simpa using h6) h5
              rw [this] at hw; cases hw
        · rw [if_neg hw]
          refine ⟨by omega, h2, h3, fun j h hj hs => ?_⟩
          by_cases he : j = k
          · subst he; exact ⟨fun h => by omega, fun _ => by simpa using hw⟩
          · exact h4 j h (by omega) hs
    · have ho' : ¬ (L[k].book == b && L[k].side == s) = true := ho
      rw [if_neg ho']
      cases hb : bestTo L b s k with
      | none =>
        rw [hb] at ih
        intro j h hj
        by_cases he : j = k
        · subst he; simpa using ho
        · exact ih j h (by omega)
      | some i =>
        rw [hb] at ih
        obtain ⟨h1, h2, h3, h4⟩ := ih
        refine ⟨by omega, h2, h3, fun j h hj hs => ?_⟩
        by_cases he : j = k
        · subst he; exact absurd hs ho
        · exact h4 j h (by omega) hs

theorem side_at {b s : Int} : ∀ {L : List Ord} {i : Nat} (h : BestAt L b s L.length i), sideOf b s L = (L[i]'h.ln) :: sideOf b s (L.eraseIdx i)
  | [], i, h => absurd h.lt (by simp)
  | x :: L, 0, ⟨_, _, h3, h4⟩ => by
    have h3' : inSide b s x = true := by simpa using h3
    simp only [sideOf, h3', if_true, List.eraseIdx_zero, List.tail_cons, List.getElem_cons_zero]
    refine insF_head fun y hy => ?_
    obtain ⟨hm, hi⟩ := mem_sideOf.1 hy
    obtain ⟨j, hj, rfl⟩ := List.getElem_of_mem hm
    have := (h4 (j + 1) (by simpa using hj) (by simpa using hj) (by simpa using hi)).2 (by omega)
    simpa using this
  | x :: L, i + 1, ⟨h1, h2, h3, h4⟩ => by
    have ih := side_at (b := b) (s := s) (L := L) (i := i) ⟨by simpa using h1, by simpa using h1, by simpa using h3, fun j h hj hs => by
      have := h4 (j + 1) (by simpa using h) (by simpa using h) (by simpa using hs)
      simp only [List.getElem_cons_succ] at this
      exact ⟨fun h => this.1 (by omega), fun h => this.2 (by omega)⟩⟩
    simp only [List.getElem_cons_succ, List.eraseIdx_cons_succ, sideOf]
    by_cases hx : inSide b s x = true
    · have := (h4 0 (by simp) (by simp) (by simpa using hx)).1 (by omega)
      simp only [List.getElem_cons_succ, List.getElem_cons_zero] at this
      rw [if_pos hx, if_pos hx, ih, insF, if_pos this]
    · rw [if_neg hx, if_neg hx, ih]

theorem side_best {b s : Int} {L : List Ord} {i : Nat} (h : bestO L b s = some i) : ∃ hi : i < L.length, inSide b s L[i] = true ∧ sideOf b s L = L[i] :: sideOf b s (L.eraseIdx i) := by
  have := bestTo_spec (L := L) (b := b) (s := s) (Nat.le_refl L.length)
  unfold bestO at h
  rw [h] at this
  exact ⟨this.ln, this.is, side_at this⟩
theorem side_none {b s : Int} {L : List Ord} (h : bestO L b s = none) : sideOf b s L = [] := by
  have := bestTo_spec (L := L) (b := b) (s := s) (Nat.le_refl L.length)
  unfold bestO at h
  rw [h] at this
  rw [List.eq_nil_iff_forall_not_mem]
  intro o ho
  obtain ⟨hm, hi⟩ := mem_sideOf.1 ho
  obtain ⟨j, hj, rfl⟩ := List.getElem_of_mem hm
  rw [this j hj hj] at hi
  cases hi

theorem dWhile_side {b s : Int} : ∀ {f : Nat} {L : List Ord} {l : List Lev}, L.length ≤ f → dWhile b s f L l = (sideOf b s L).foldl addLev l
  | 0, L, l, h => by
    have : L = [] := List.length_eq_zero_iff.1 (by omega)
    subst this; rfl
  | f + 1, L, l, h => by
    cases hb : bestO L b s with
    | none => rw [dWhile_none hb, side_none hb]; rfl
    | some i =>
      obtain ⟨hi, _, hs⟩ := side_best hb
      rw [dWhile_some hi hb, hs, List.foldl_cons, dWhile_side (by rw [List.length_eraseIdx_of_lt hi]; omega)]
theorem levelsO_side (L : List Ord) (b s : Int) : levelsO L b s = (sideOf b s L).foldl addLev [] := dWhile_side (Nat.le_refl _)

/-- The places of a trader's orders. -/
theorem idx_at {L : List Ord} {t : Int} : ∀ {k : Nat}, k ≤ L.length → ∀ {j i : Nat}, (idxTo L t k)[j]? = some i →
    i < k ∧ ((L.take k).filter (isOf t))[j]? = L[i]? ∧ ((L.take k).eraseIdx i).filter (isOf t) = ((L.take k).filter (isOf t)).eraseIdx j
  | 0, _, j, i, h => by simp [idxTo] at h
  | k + 1, hk, j, i, h => by
    have hk' : k < L.length := by omega
    have ih := @idx_at L t k (by omega) j i
    have hlen := @idxTo_len L t k (by omega)
    have hlk : (L.take k).length = k := by simp; omega
    rw [idxTo_succ hk'] at h
    rw [erase_step hk', subTo_succ hk']
    by_cases ho : isOf t L[k] = true
    · rw [if_pos ho] at h ⊢
      by_cases hj : j < (idxTo L t k).length
      · rw [List.getElem?_append_left hj] at h
        obtain ⟨h1, h2, h3⟩ := ih h
        rw [if_neg (by omega), List.filter_append, h3, List.filter_cons_of_pos ho, List.filter_nil]
        refine ⟨by omega, ?_, ?_⟩
        · rw [List.getElem?_append_left (by omega)]; exact h2
        · rw [List.eraseIdx_append_of_lt_length (by omega)]
      · rw [List.getElem?_append_right (by omega)] at h
        have hj2 : j = (idxTo L t k).length := by
          have := (List.getElem?_eq_some_iff.1 h).1
          simp at this; omega
        subst hj2
        simp only [Nat.sub_self, List.getElem?_cons_zero, Option.some.injEq] at h
        subst h
        rw [if_pos rfl]
        refine ⟨by omega, ?_, ?_⟩
        · rw [List.getElem?_append_right (by omega), hlen]; simp
        · rw [hlen, List.eraseIdx_append_of_length_le (by omega), List.eraseIdx_of_length_le (by omega)]; simp
    · rw [if_neg ho] at h ⊢
      obtain ⟨h1, h2, h3⟩ := ih h
      rw [if_neg (by omega), List.filter_append, List.filter_cons_of_neg ho, List.filter_nil, List.append_nil]
      exact ⟨by omega, h2, h3⟩

theorem sideT_best {b s t : Int} {L : List Ord} {i : Nat} (h : bestOfO L b s t = some i) : ∃ hi : i < L.length, inSide b s L[i] = true ∧ isOf t L[i] = true ∧ (sideOf b s L).filter (isOf t) = L[i] :: (sideOf b s (L.eraseIdx i)).filter (isOf t) := by
  unfold bestOfO at h
  cases hb : bestO (L.filter (isOf t)) b s with
  | none => rw [hb] at h; simp at h
  | some j =>
    rw [hb] at h
    simp only [Option.bind_some] at h
    obtain ⟨h1, h2, h3⟩ := idx_at (Nat.le_refl _) h
    rw [List.take_length] at h2 h3
    obtain ⟨hj, h4, h5⟩ := side_best hb
    rw [List.getElem?_eq_getElem h1, List.getElem?_eq_getElem hj] at h2
    have h6 : (L.filter (isOf t))[j] = L[i] := by simpa using h2
    have h7 := (List.mem_filter.1 (List.getElem_mem hj)).2
    rw [h6] at h4 h5 h7
    refine ⟨h1, h4, h7, ?_⟩
    rw [← sideOf_filter, h5, ← sideOf_filter, h3]
theorem sideT_none {b s t : Int} {L : List Ord} (h : bestOfO L b s t = none) : (sideOf b s L).filter (isOf t) = [] := by
  unfold bestOfO at h
  cases hb : bestO (L.filter (isOf t)) b s with
  | none => rw [← sideOf_filter]; exact side_none hb
  | some j =>
    obtain ⟨hj, _⟩ := side_best hb
    rw [hb] at h
    have hl := @idxTo_len L t L.length (Nat.le_refl _)
    rw [List.take_length] at hl
    simp only [Option.bind_some] at h
    rw [List.getElem?_eq_none_iff] at h
    omega

theorem filter_erase {p : Ord → Bool} : ∀ {L : List Ord} {i : Nat} (hi : i < L.length), p L[i] = false → (L.eraseIdx i).filter p = L.filter p
  | x :: L, 0, _, h => by
    have : p x = false := by simpa using h
    simp [this]
  | x :: L, i + 1, hi, h => by
    rw [List.eraseIdx_cons_succ, List.filter_cons, List.filter_cons, filter_erase (by simpa using hi) (by simpa using h)]

def goneO (o : Ord) : Ev := goneE o.id o.opn
theorem cWhile_side {b s t : Int} : ∀ {f : Nat} {L : List Ord} {E : List Ev}, L.length ≤ f → cWhile b s t f L E = (L.filter fun o => !(inSide b s o && isOf t o), E ++ ((sideOf b s L).filter (isOf t)).map goneO)
  | 0, L, E, h => by
    have : L = [] := List.length_eq_zero_iff.1 (by omega)
    subst this; simp [cWhile, sideOf]
  | f + 1, L, E, h => by
    cases hb : bestOfO L b s t with
    | none =>
      have hn := sideT_none hb
      rw [cWhile_none hb, hn]
      have : L.filter (fun o => !(inSide b s o && isOf t o)) = L := by
        rw [List.filter_eq_self]
        intro o ho
        cases h1 : inSide b s o <;> cases h2 : isOf t o <;> simp
        have : o ∈ (sideOf b s L).filter (isOf t) := List.mem_filter.2 ⟨mem_sideOf.2 ⟨ho, h1⟩, h2⟩
        rw [hn] at this; cases this
      rw [this]; simp
    | some i =>
      obtain ⟨hi, h1, h2, h3⟩ := sideT_best hb
      rw [cWhile_some hi hb, cWhile_side (by rw [List.length_eraseIdx_of_lt hi]; omega), filter_erase hi (by simp [h1, h2]), h3, List.map_cons, List.append_assoc]
      rfl
theorem cOne_side {b s t : Int} {L : List Ord} {E : List Ev} : cOne b s t (L, E) = (L.filter fun o => !(inSide b s o && isOf t o), E ++ ((sideOf b s L).filter (isOf t)).map goneO) := cWhile_side (Nat.le_refl _)
theorem cBook_side {b t : Int} {L : List Ord} {E : List Ev} : cBook b t (L, E) = (L.filter fun o => !(o.book == b && (o.side == 1 || o.side == 2) && isOf t o), E ++ (((sideOf b 1 L).filter (isOf t)) ++ ((sideOf b 2 L).filter (isOf t))).map goneO) := by
  unfold cBook
  rw [cOne_side, cOne_side, List.filter_filter, sideOf_filter, List.map_append, ← List.append_assoc, List.filter_filter]
  refine Prod.ext ?_ ?_
  · refine List.filter_congr fun o _ => ?_
    simp only [inSide]
    cases o.book == b <;> cases o.side == 1 <;> cases o.side == 2 <;> cases isOf t o <;> rfl
  · simp only
    congr 2
    refine List.filter_congr fun o ho => ?_
    have := (mem_sideOf.1 ho).2
    simp only [inSide, Bool.and_eq_true, beq_iff_eq] at this
    simp [inSide, this.2]

def without (id : Int) (L : List Ord) : List Ord := L.filter fun o => o.id != id
def reopen (id c : Int) (o : Ord) : Ord := if o.id = id then { o with opn := c } else o

theorem erase_without : ∀ {L : List Ord}, (L.map Ord.id).Nodup → ∀ {i : Nat} (hi : i < L.length), L.eraseIdx i = without L[i].id L
  | x :: L, h, 0, _ => by
    obtain ⟨h1, _⟩ := List.nodup_cons.1 h
    simp only [List.eraseIdx_zero, List.tail_cons, List.getElem_cons_zero, without]
    rw [List.filter_cons_of_neg (by simp)]
    refine (List.filter_eq_self.2 fun o ho => ?_).symm
    have : o.id ≠ x.id := fun e => h1 (by rw [← e]; exact List.mem_map_of_mem ho)
    simpa using this
  | x :: L, h, i + 1, hi => by
    obtain ⟨h1, h2⟩ := List.nodup_cons.1 h
    have hi' : i < L.length := by simpa using hi
    have hne : x.id ≠ L[i].id := fun e => h1 (by rw [e]; exact List.mem_map_of_mem (List.getElem_mem hi'))
    simp only [List.eraseIdx_cons_succ, List.getElem_cons_succ, without]
    rw [List.filter_cons_of_pos (by simpa using hne), erase_without h2 hi']
    rfl
theorem map_reopen_self {id c : Int} : ∀ {L : List Ord}, id ∉ L.map Ord.id → L.map (reopen id c) = L
  | [], _ => rfl
  | x :: L, h => by
    simp only [List.map_cons, List.mem_cons, not_or] at h
    rw [List.map_cons, map_reopen_self h.2]
    simp [reopen, Ne.symm h.1]
theorem set_reopen {c : Int} : ∀ {L : List Ord}, (L.map Ord.id).Nodup → ∀ {i : Nat} (hi : i < L.length), L.set i { L[i] with opn := c } = L.map (reopen L[i].id c)
  | x :: L, h, 0, _ => by
    obtain ⟨h1, _⟩ := List.nodup_cons.1 h
    rw [List.set_cons_zero, List.getElem_cons_zero, List.map_cons, map_reopen_self (c := c) h1]
    simp [reopen]
  | x :: L, h, i + 1, hi => by
    obtain ⟨h1, h2⟩ := List.nodup_cons.1 h
    have hi' : i < L.length := by simpa using hi
    have hne : x.id ≠ L[i].id := fun e => h1 (by rw [e]; exact List.mem_map_of_mem (List.getElem_mem hi'))
    simp only [List.set_cons_succ, List.getElem_cons_succ, List.map_cons]
    rw [← set_reopen h2 hi']
    simp [reopen, hne]
theorem reopen_price (id c : Int) (o : Ord) : (reopen id c o).price = o.price := by unfold reopen; split <;> rfl
theorem reopen_book (id c : Int) (o : Ord) : (reopen id c o).book = o.book := by unfold reopen; split <;> rfl
theorem reopen_side (id c : Int) (o : Ord) : (reopen id c o).side = o.side := by unfold reopen; split <;> rfl

theorem side_without (b s id : Int) (L : List Ord) : sideOf b s (without id L) = without id (sideOf b s L) := sideOf_filter b s _ L
theorem side_reopen (b s id c : Int) (L : List Ord) : sideOf b s (L.map (reopen id c)) = (sideOf b s L).map (reopen id c) := sideOf_map (reopen_price id c) (reopen_book id c) (reopen_side id c) L
theorem without_self {id : Int} {L : List Ord} (h : id ∉ L.map Ord.id) : without id L = L := by
  refine List.filter_eq_self.2 fun o ho => ?_
  have : o.id ≠ id := fun e => h (by rw [← e]; exact List.mem_map_of_mem ho)
  simpa using this

/-- One number, one order. -/
theorem id_inj {x y : Ord} {L : List Ord} (h : (L.map Ord.id).Nodup) (hx : x ∈ L) (hy : y ∈ L) (e : x.id = y.id) : x = y := by
  induction L with
  | nil => cases hx
  | cons z L ih =>
    obtain ⟨h1, h2⟩ := List.nodup_cons.1 h
    rcases List.mem_cons.1 hx with hx | hx
    · rcases List.mem_cons.1 hy with hy | hy
      · rw [hx, hy]
      · exact absurd (List.mem_map_of_mem (f := Ord.id) hy) (by rw [← e, hx]; exact h1)
    · rcases List.mem_cons.1 hy with hy | hy
      · exact absurd (List.mem_map_of_mem (f := Ord.id) hx) (by rw [e, hy]; exact h1)
      · exact ih h2 hx hy
end Go.Proofs.Ytigpgnjgmaoejaa
