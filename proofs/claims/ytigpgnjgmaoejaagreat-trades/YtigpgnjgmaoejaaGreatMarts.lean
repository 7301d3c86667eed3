/- Plain mathematics: a side of a book as a sorted list (sideOf) of what rests, and what the document's searches for the best one come to over it. No condition. -/
import Derived.Test.YtigpgnjgmaoejaaGreatRefLM
import Derived.Test.YtigpgnjgmaoejaaGreatRefOP
import Derived.Test.YtigpgnjgmaoejaaGreatRefQ
namespace Go.Proofs.YtigpgnjgmaoejaaGreat

def inSide (b s : Int) (o : Ord) : Bool := o.book == b && o.side == s

/-- An order that came earlier goes in ahead of all that do not beat it. -/
def insF (s : Int) (x : Ord) : List Ord → List Ord
  | [] => [x]
  | y :: M => if beatsB s y.price x.price = true then y :: insF s x M else x :: y :: M

/-- One that comes later goes in behind all that it does not beat. -/
def insB (s : Int) (x : Ord) : List Ord → List Ord
  | [] => [x]
  | y :: M => if beatsB s x.price y.price = true then x :: y :: M else y :: insB s x M

/-- What rests on a side of a book, the best one first. -/
def sideOf (b s : Int) : List Ord → List Ord
  | [] => []
  | x :: L => if inSide b s x = true then insF s x (sideOf b s L) else sideOf b s L

def Srt (s : Int) (M : List Ord) : Prop := M.Pairwise fun a b => beatsB s b.price a.price = false

theorem nb_trans {s p q r : Int} (h : beatsB s p q = false) (k : beatsB s q r = false) : beatsB s p r = false := by
  simp only [beatsB, Bool.or_eq_false_iff, Bool.and_eq_false_iff, beq_eq_false_iff_ne, decide_eq_false_iff_not, ne_eq] at *
  omega
theorem bt_trans {s p q r : Int} (h : beatsB s p q = true) (k : beatsB s q r = true) : beatsB s p r = true := by
  simp only [beatsB, Bool.or_eq_true, Bool.and_eq_true, beq_iff_eq, decide_eq_true_eq] at *
  omega
theorem bt_asym {s p q : Int} (h : beatsB s p q = true) : beatsB s q p = false := by
  simp only [beatsB, Bool.or_eq_true, Bool.and_eq_true, beq_iff_eq, decide_eq_true_eq, Bool.or_eq_false_iff, Bool.and_eq_false_iff, beq_eq_false_iff_ne, decide_eq_false_iff_not, ne_eq] at *
  omega

theorem insF_perm (s : Int) (x : Ord) : ∀ M : List Ord, (insF s x M).Perm (x :: M)
  | [] => List.Perm.refl _
  | y :: M => by
    unfold insF
    split
    · exact ((insF_perm s x M).cons y).trans (List.Perm.swap x y M)
    · exact List.Perm.refl _
theorem sideOf_perm (b s : Int) : ∀ L : List Ord, (sideOf b s L).Perm (L.filter (inSide b s))
  | [] => List.Perm.refl _
  | x :: L => by
    unfold sideOf
    by_cases h : inSide b s x = true
    · rw [if_pos h, List.filter_cons_of_pos h]
      exact (insF_perm s x _).trans ((sideOf_perm b s L).cons x)
    · rw [if_neg h, List.filter_cons_of_neg h]
      exact sideOf_perm b s L
theorem mem_sideOf {b s : Int} {L : List Ord} {o : Ord} : o ∈ sideOf b s L ↔ o ∈ L ∧ inSide b s o = true := by
  rw [(sideOf_perm b s L).mem_iff, List.mem_filter]
theorem sideOf_len (b s : Int) (L : List Ord) : (sideOf b s L).length = restN L b s := (sideOf_perm b s L).length_eq
theorem sideOf_nodup {b s : Int} {L : List Ord} (h : (L.map Ord.id).Nodup) : ((sideOf b s L).map Ord.id).Nodup := by
  rw [((sideOf_perm b s L).map Ord.id).nodup_iff]
  exact h.sublist (List.filter_sublist.map Ord.id)

theorem mem_insF {s : Int} {x y : Ord} {M : List Ord} : y ∈ insF s x M ↔ y = x ∨ y ∈ M := by
  rw [(insF_perm s x M).mem_iff, List.mem_cons]
theorem srt_insF {s : Int} {x : Ord} : ∀ {M : List Ord}, Srt s M → Srt s (insF s x M)
  | [], _ => List.pairwise_singleton _ _
  | y :: M, h => by
    obtain ⟨h1, h2⟩ := List.pairwise_cons.1 h
    unfold insF
    split
    · rename_i hb
      refine List.pairwise_cons.2 ⟨fun z hz => ?_, srt_insF h2⟩
      rcases mem_insF.1 hz with rfl | hz
      · exact bt_asym hb
      · exact h1 z hz
    · rename_i hb
      have hb' : beatsB s y.price x.price = false := by simpa using hb
      refine List.pairwise_cons.2 ⟨fun z hz => ?_, h⟩
      rcases List.mem_cons.1 hz with rfl | hz
      · exact hb'
      · exact nb_trans (h1 z hz) hb'
theorem srt_sideOf (b s : Int) : ∀ L : List Ord, Srt s (sideOf b s L)
  | [] => List.Pairwise.nil
  | x :: L => by
    unfold sideOf
    split
    · exact srt_insF (srt_sideOf b s L)
    · exact srt_sideOf b s L

theorem insF_head {s : Int} {x : Ord} : ∀ {M : List Ord}, (∀ y ∈ M, beatsB s y.price x.price = false) → insF s x M = x :: M
  | [], _ => rfl
  | y :: M, h => by
    unfold insF
    rw [if_neg (by rw [h y (by simp)]; decide)]

theorem filter_insF {s : Int} {x : Ord} (q : Ord → Bool) : ∀ {M : List Ord}, Srt s M → (insF s x M).filter q = if q x = true then insF s x (M.filter q) else M.filter q
  | [], _ => by simp only [insF, List.filter_cons, List.filter_nil]
  | y :: M, h => by
    obtain ⟨h1, h2⟩ := List.pairwise_cons.1 h
    by_cases hb : beatsB s y.price x.price = true
    · have e : insF s x (y :: M) = y :: insF s x M := by simp [insF, hb]
      rw [e, List.filter_cons, filter_insF q h2, List.filter_cons]
      by_cases hy : q y = true <;> by_cases hx : q x = true <;> simp [hy, hx, insF, hb]
    · have hb' : beatsB s y.price x.price = false := by simpa using hb
      have ha : ∀ z ∈ y :: M, beatsB s z.price x.price = false := by
        intro z hz
        rcases List.mem_cons.1 hz with rfl | hz
        · exact hb'
        · exact nb_trans (h1 z hz) hb'
      rw [insF_head ha, List.filter_cons]
      split
      · rw [insF_head fun z hz => ha z (List.mem_filter.1 hz).1]
      · rfl
theorem sideOf_filter (b s : Int) (q : Ord → Bool) : ∀ L : List Ord, sideOf b s (L.filter q) = (sideOf b s L).filter q
  | [] => rfl
  | x :: L => by
    by_cases hx : q x = true
    · rw [List.filter_cons_of_pos hx]
      simp only [sideOf]
      split
      · rw [filter_insF q (srt_sideOf b s L), if_pos hx, sideOf_filter b s q L]
      · exact sideOf_filter b s q L
    · rw [List.filter_cons_of_neg hx]
      simp only [sideOf]
      split
      · rw [filter_insF q (srt_sideOf b s L), if_neg hx, sideOf_filter b s q L]
      · exact sideOf_filter b s q L

theorem map_insF {s : Int} {x : Ord} {f : Ord → Ord} (hf : ∀ o, (f o).price = o.price) : ∀ {M : List Ord}, (insF s x M).map f = insF s (f x) (M.map f)
  | [] => rfl
  | y :: M => by
    simp only [insF, List.map_cons, hf]
    split
    · rw [List.map_cons, map_insF hf]
    · rfl
theorem sideOf_map {b s : Int} {f : Ord → Ord} (hf : ∀ o, (f o).price = o.price) (hb : ∀ o, (f o).book = o.book) (hs : ∀ o, (f o).side = o.side) : ∀ L : List Ord, sideOf b s (L.map f) = (sideOf b s L).map f
  | [] => rfl
  | x :: L => by
    have e : inSide b s (f x) = inSide b s x := by simp only [inSide, hb, hs]
    simp only [sideOf, List.map_cons, e]
    split
    · rw [map_insF hf, sideOf_map hf hb hs]
    · exact sideOf_map hf hb hs L

theorem ins_comm {s : Int} {x y : Ord} : ∀ {M : List Ord}, insF s y (insB s x M) = insB s x (insF s y M)
  | [] => by
    simp only [insF, insB]
    try (split <;> rfl)
  | z :: M => by
    by_cases h1 : beatsB s x.price z.price = true <;> by_cases h2 : beatsB s z.price y.price = true
    · have h3 := bt_trans h1 h2
      simp [insF, insB, h1, h2, h3]
    · by_cases h3 : beatsB s x.price y.price = true <;> simp [insF, insB, h1, h2, h3]
    · simp [insF, insB, h1, h2, ins_comm (M := M)]
    · have h3 : beatsB s x.price y.price = false := nb_trans (by simpa using h1) (by simpa using h2)
      simp [insF, insB, h1, h2, h3]
theorem sideOf_snoc {b s : Int} {x : Ord} : ∀ L : List Ord, sideOf b s (L ++ [x]) = if inSide b s x = true then insB s x (sideOf b s L) else sideOf b s L
  | [] => by
    simp only [List.nil_append, sideOf]
    split <;> rfl
  | y :: L => by
    simp only [List.cons_append, sideOf, sideOf_snoc L]
    by_cases hx : inSide b s x = true <;> by_cases hy : inSide b s y = true <;> simp [hx, hy, ins_comm]

/-- The place that is looked for from the end. -/
def placeTo (s p : Int) (M : List Ord) : Nat → Nat
  | 0 => 0
  | k + 1 => if beatsB s p (priceAt M k) = true then placeTo s p M k else k + 1
def placeO (s p : Int) (M : List Ord) : Nat := placeTo s p M M.length
theorem placeTo_le (s p : Int) (M : List Ord) : ∀ k, placeTo s p M k ≤ k
  | 0 => Nat.le_refl _
  | k + 1 => by
    unfold placeTo
    split
    · have := placeTo_le s p M k; omega
    · omega
theorem placeTo_hi {s p : Int} {M : List Ord} : ∀ {k j : Nat}, placeTo s p M k ≤ j → j < k → beatsB s p (priceAt M j) = true
  | 0, j, _, h => by omega
  | k + 1, j, h, hj => by
    unfold placeTo at h
    split at h
    · rename_i hb
      by_cases he : j = k
      · subst he; exact hb
      · exact placeTo_hi h (by omega)
    · omega
theorem placeTo_lo {s p : Int} {M : List Ord} : ∀ {k : Nat}, placeTo s p M k ≠ 0 → beatsB s p (priceAt M (placeTo s p M k - 1)) = false
  | 0, h => absurd rfl h
  | k + 1, h => by
    unfold placeTo at h ⊢
    split
    · rename_i hb
      rw [if_pos hb] at h
      exact placeTo_lo h
    · rename_i hb
      simpa using hb
theorem insB_append {s : Int} {x : Ord} {B : List Ord} : ∀ {A : List Ord}, (∀ y ∈ A, beatsB s x.price y.price = false) → insB s x (A ++ B) = A ++ insB s x B
  | [], _ => rfl
  | y :: A, h => by
    rw [List.cons_append, insB, if_neg (by rw [h y (by simp)]; decide), insB_append fun z hz => h z (by simp [hz])]
    rfl
theorem insB_place {s : Int} {x : Ord} {M : List Ord} (hM : Srt s M) : insB s x M = M.take (placeO s x.price M) ++ [x] ++ M.drop (placeO s x.price M) := by
  have hle := placeTo_le s x.price M M.length
  have hlo := @placeTo_lo s x.price M M.length
  have hhi := @placeTo_hi s x.price M M.length
  unfold placeO
  generalize placeTo s x.price M M.length = k at *
  have e : insB s x M = insB s x (M.take k ++ M.drop k) := by rw [List.take_append_drop]
  rw [e, insB_append, List.append_assoc]
  · congr 1
    by_cases hk : k < M.length
    · have h1 := hhi (Nat.le_refl k) hk
      rw [priceAt_eq hk] at h1
      rw [List.drop_eq_getElem_cons hk, insB, if_pos h1]
      rfl
    · rw [List.drop_of_length_le (by omega)]
      rfl
  · intro y hy
    obtain ⟨j, hj, rfl⟩ := List.getElem_of_mem hy
    have hj2 : j < k ∧ j < M.length := by rw [List.length_take] at hj; omega
    have h1 := hlo (by omega)
    rw [priceAt_eq (by omega)] at h1
    rw [List.getElem_take]
    by_cases he : j = k - 1
    · subst he; exact h1
    · exact nb_trans h1 (List.pairwise_iff_getElem.1 hM j (k - 1) hj2.2 (by omega) (by omega))

/-- The best one. -/
structure BestAt (L : List Ord) (b s : Int) (k i : Nat) : Prop where
  lt : i < k
  ln : i < L.length
  is : inSide b s L[i] = true
  all : ∀ j (h : j < L.length), j < k → inSide b s L[j] = true → (j < i → beatsB s L[i].price L[j].price = true) ∧ (i < j → beatsB s L[j].price L[i].price = false)

theorem bestTo_spec {L : List Ord} {b s : Int} : ∀ {k : Nat}, k ≤ L.length → match bestTo L b s k with
    | none => ∀ j (h : j < L.length), j < k → inSide b s L[j] = false
    | some i => BestAt L b s k i
  | 0, _ => by intro j _ h; omega
  | k + 1, hk => by
    have ih := bestTo_spec (L := L) (b := b) (s := s) (k := k) (by omega)
    have hk' : k < L.length := by omega
    rw [bestTo_succ hk']
    unfold bestStep
    by_cases ho : inSide b s L[k] = true
    · have ho' : (L[k].book == b && L[k].side == s) = true := ho
      rw [if_pos ho']
      cases hb : bestTo L b s k with
      | none =>
        rw [hb] at ih
        refine ⟨by omega, hk', ho, fun j h hj hs => ?_⟩
        by_cases he : j = k
        · subst he; exact ⟨fun h => by omega, fun h => by omega⟩
        · have := ih j h (by omega); rw [this] at hs; cases hs
      | some i =>
        rw [hb] at ih
        obtain ⟨h1, h2, h3, h4⟩ := ih
        simp only
        rw [priceAt_eq h2]
        by_cases hw : beatsB s L[k].price L[i].price = true
        · rw [if_pos hw]
          refine ⟨by omega, hk', ho, fun j h hj hs => ⟨fun hjk => ?_, fun h => by omega⟩⟩
          have := h4 j h hjk hs
          rcases Nat.lt_trichotomy j i with hji | rfl | hji
          · exact bt_trans hw (this.1 hji)
          · exact hw
          · have h5 := this.2 hji
            by_cases h6 : beatsB s L[k].price L[j].price = true
            · exact h6
            · have := nb_trans (by simpa using h6) h5
              rw [this] at hw; cases hw
        · rw [if_neg hw]
          refine ⟨by omega, h2, h3, fun j h hj hs => ?_⟩
          by_cases he : j = k
          · subst he; exact ⟨fun h => by omega, fun _ => by simpa using hw⟩
          · exact h4 j h (by omega) hs
    · have ho' : ¬ (L[k].book == b && L[k].side == s) = true := ho
      rw [if_neg ho']
      cases hb : bestTo L b s k with
      | none =>
        rw [hb] at ih
        intro j h hj
        by_cases he : j = k
        · subst he; simpa using ho
        · exact ih j h (by omega)
      | some i =>
        rw [hb] at ih
        obtain ⟨h1, h2, h3, h4⟩ := ih
        refine ⟨by omega, h2, h3, fun j h hj hs => ?_⟩
        by_cases he : j = k
        · subst he; exact absurd hs ho
        · exact h4 j h (by omega) hs

theorem side_at {b s : Int} : ∀ {L : List Ord} {i : Nat} (h : BestAt L b s L.length i), sideOf b s L = (L[i]'h.ln) :: sideOf b s (L.eraseIdx i)
  | [], i, h => absurd h.lt (by simp)
  | x :: L, 0, ⟨_, _, h3, h4⟩ => by
    have h3' : inSide b s x = true := by simpa using h3
    simp only [sideOf, h3', if_true, List.eraseIdx_zero, List.tail_cons, List.getElem_cons_zero]
    refine insF_head fun y hy => ?_
    obtain ⟨hm, hi⟩ := mem_sideOf.1 hy
    obtain ⟨j, hj, rfl⟩ := List.getElem_of_mem hm
    have := (h4 (j + 1) (by simpa using hj) (by simpa using hj) (by simpa using hi)).2 (by omega)
    simpa using this
  | x :: L, i + 1, ⟨h1, h2, h3, h4⟩ => by
    have ih := side_at (b := b) (s := s) (L := L) (i := i) ⟨by simpa using h1, by simpa using h1, by simpa using h3, fun j h hj hs => by
      have := h4 (j + 1) (by simpa using h) (by simpa using h) (by simpa using hs)
      simp only [List.getElem_cons_succ] at this
      exact ⟨fun h => this.1 (by omega), fun h => this.2 (by omega)⟩⟩
    simp only [List.getElem_cons_succ, List.eraseIdx_cons_succ, sideOf]
    by_cases hx : inSide b s x = true
    · have := (h4 0 (by simp) (by simp) (by simpa using hx)).1 (by omega)
      simp only [List.getElem_cons_succ, List.getElem_cons_zero] at this
      rw [if_pos hx, if_pos hx, ih, insF, if_pos this]
    · rw [if_neg hx, if_neg hx, ih]

theorem side_best {b s : Int} {L : List Ord} {i : Nat} (h : bestO L b s = some i) : ∃ hi : i < L.length, inSide b s L[i] = true ∧ sideOf b s L = L[i] :: sideOf b s (L.eraseIdx i) := by
  have := bestTo_spec (L := L) (b := b) (s := s) (Nat.le_refl L.length)
  unfold bestO at h
  rw [h] at this
  exact ⟨this.ln, this.is, side_at this⟩
theorem side_none {b s : Int} {L : List Ord} (h : bestO L b s = none) : sideOf b s L = [] := by
  have := bestTo_spec (L := L) (b := b) (s := s) (Nat.le_refl L.length)
  unfold bestO at h
  rw [h] at this
  rw [List.eq_nil_iff_forall_not_mem]
  intro o ho
  obtain ⟨hm, hi⟩ := mem_sideOf.1 ho
  obtain ⟨j, hj, rfl⟩ := List.getElem_of_mem hm
  rw [this j hj hj] at hi
  cases hi

theorem dWhile_side {b s : Int} : ∀ {f : Nat} {L : List Ord} {l : List Lev}, L.length ≤ f → dWhile b s f L l = (sideOf b s L).foldl addLev l
  | 0, L, l, h => by
    have : L = [] := List.length_eq_zero_iff.1 (by omega)
    subst this; rfl
  | f + 1, L, l, h => by
    cases hb : bestO L b s with
    | none => rw [dWhile_none hb, side_none hb]; rfl
    | some i =>
      obtain ⟨hi, _, hs⟩ := side_best hb
      rw [dWhile_some hi hb, hs, List.foldl_cons, dWhile_side (by rw [List.length_eraseIdx_of_lt hi]; omega)]
theorem levelsO_side (L : List Ord) (b s : Int) : levelsO L b s = (sideOf b s L).foldl addLev [] := dWhile_side (Nat.le_refl _)

/-- The places of a trader's orders. -/
theorem idx_at {L : List Ord} {t : Int} : ∀ {k : Nat}, k ≤ L.length → ∀ {j i : Nat}, (idxTo L t k)[j]? = some i →
    i < k ∧ ((L.take k).filter (isOf t))[j]? = L[i]? ∧ ((L.take k).eraseIdx i).filter (isOf t) = ((L.take k).filter (isOf t)).eraseIdx j
  | 0, _, j, i, h => by simp [idxTo] at h
  | k + 1, hk, j, i, h => by
    have hk' : k < L.length := by omega
    have ih := @idx_at L t k (by omega) j i
    have hlen := @idxTo_len L t k (by omega)
    have hlk : (L.take k).length = k := by simp; omega
    rw [idxTo_succ hk'] at h
    rw [erase_step hk', subTo_succ hk']
    by_cases ho : isOf t L[k] = true
    · rw [if_pos ho] at h ⊢
      by_cases hj : j < (idxTo L t k).length
      · rw [List.getElem?_append_left hj] at h
        obtain ⟨h1, h2, h3⟩ := ih h
        rw [if_neg (by omega), List.filter_append, h3, List.filter_cons_of_pos ho, List.filter_nil]
        refine ⟨by omega, ?_, ?_⟩
        · rw [List.getElem?_append_left (by omega)]; exact h2
        · rw [List.eraseIdx_append_of_lt_length (by omega)]
      · rw [List.getElem?_append_right (by omega)] at h
        have hj2 : j = (idxTo L t k).length := by
          have := (List.getElem?_eq_some_iff.1 h).1
          simp at this; omega
        subst hj2
        simp only [Nat.sub_self, List.getElem?_cons_zero, Option.some.injEq] at h
        subst h
        rw [if_pos rfl]
        refine ⟨by omega, ?_, ?_⟩
        · rw [List.getElem?_append_right (by omega), hlen]; simp
        · rw [hlen, List.eraseIdx_append_of_length_le (by omega), List.eraseIdx_of_length_le (by omega)]; simp
    · rw [if_neg ho] at h ⊢
      obtain ⟨h1, h2, h3⟩ := ih h
      rw [if_neg (by omega), List.filter_append, List.filter_cons_of_neg ho, List.filter_nil, List.append_nil]
      exact ⟨by omega, h2, h3⟩

theorem sideT_best {b s t : Int} {L : List Ord} {i : Nat} (h : bestOfO L b s t = some i) : ∃ hi : i < L.length, inSide b s L[i] = true ∧ isOf t L[i] = true ∧ (sideOf b s L).filter (isOf t) = L[i] :: (sideOf b s (L.eraseIdx i)).filter (isOf t) := by
  unfold bestOfO at h
  cases hb : bestO (L.filter (isOf t)) b s with
  | none => rw [hb] at h; simp at h
  | some j =>
    rw [hb] at h
    simp only [Option.bind_some] at h
    obtain ⟨h1, h2, h3⟩ := idx_at (Nat.le_refl _) h
    rw [List.take_length] at h2 h3
    obtain ⟨hj, h4, h5⟩ := side_best hb
    rw [List.getElem?_eq_getElem h1, List.getElem?_eq_getElem hj] at h2
    have h6 : (L.filter (isOf t))[j] = L[i] := by simpa using h2
    have h7 := (List.mem_filter.1 (List.getElem_mem hj)).2
    rw [h6] at h4 h5 h7
    refine ⟨h1, h4, h7, ?_⟩
    rw [← sideOf_filter, h5, ← sideOf_filter, h3]
theorem sideT_none {b s t : Int} {L : List Ord} (h : bestOfO L b s t = none) : (sideOf b s L).filter (isOf t) = [] := by
  unfold bestOfO at h
  cases hb : bestO (L.filter (isOf t)) b s with
  | none => rw [← sideOf_filter]; exact side_none hb
  | some j =>
    obtain ⟨hj, _⟩ := side_best hb
    rw [hb] at h
    have hl := @idxTo_len L t L.length (Nat.le_refl _)
    rw [List.take_length] at hl
    simp only [Option.bind_some] at h
    rw [List.getElem?_eq_none_iff] at h
    omega

theorem filter_erase {p : Ord → Bool} : ∀ {L : List Ord} {i : Nat} (hi : i < L.length), p L[i] = false → (L.eraseIdx i).filter p = L.filter p
  | x :: L, 0, _, h => by
    have : p x = false := by simpa using h
    simp [this]
  | x :: L, i + 1, hi, h => by
    rw [List.eraseIdx_cons_succ, List.filter_cons, List.filter_cons, filter_erase (by simpa using hi) (by simpa using h)]

def goneO (o : Ord) : Ev := goneE o.id o.opn
theorem cWhile_side {b s t : Int} : ∀ {f : Nat} {L : List Ord} {E : List Ev}, L.length ≤ f → cWhile b s t f L E = (L.filter fun o => !(inSide b s o && isOf t o), E ++ ((sideOf b s L).filter (isOf t)).map goneO)
  | 0, L, E, h => by
    have : L = [] := List.length_eq_zero_iff.1 (by omega)
    subst this; simp [cWhile, sideOf]
  | f + 1, L, E, h => by
    cases hb : bestOfO L b s t with
    | none =>
      have hn := sideT_none hb
      rw [cWhile_none hb, hn]
      have : L.filter (fun o => !(inSide b s o && isOf t o)) = L := by
        rw [List.filter_eq_self]
        intro o ho
        cases h1 : inSide b s o <;> cases h2 : isOf t o <;> simp
        have : o ∈ (sideOf b s L).filter (isOf t) := List.mem_filter.2 ⟨mem_sideOf.2 ⟨ho, h1⟩, h2⟩
        rw [hn] at this; cases this
      rw [this]; simp
    | some i =>
      obtain ⟨hi, h1, h2, h3⟩ := sideT_best hb
      rw [cWhile_some hi hb, cWhile_side (by rw [List.length_eraseIdx_of_lt hi]; omega), filter_erase hi (by simp [h1, h2]), h3, List.map_cons, List.append_assoc]
      rfl
theorem cOne_side {b s t : Int} {L : List Ord} {E : List Ev} : cOne b s t (L, E) = (L.filter fun o => !(inSide b s o && isOf t o), E ++ ((sideOf b s L).filter (isOf t)).map goneO) := cWhile_side (Nat.le_refl _)
theorem cBook_side {b t : Int} {L : List Ord} {E : List Ev} : cBook b t (L, E) = (L.filter fun o => !(o.book == b && (o.side == 1 || o.side == 2) && isOf t o), E ++ (((sideOf b 1 L).filter (isOf t)) ++ ((sideOf b 2 L).filter (isOf t))).map goneO) := by
  unfold cBook
  rw [cOne_side, cOne_side, List.filter_filter, sideOf_filter, List.map_append, ← List.append_assoc, List.filter_filter]
  refine Prod.ext ?_ ?_
  · refine List.filter_congr fun o _ => ?_
    simp only [inSide]
    cases o.book == b <;> cases o.side == 1 <;> cases o.side == 2 <;> cases isOf t o <;> rfl
  · simp only
    congr 2
    refine List.filter_congr fun o ho => ?_
    have := (mem_sideOf.1 ho).2
    simp only [inSide, Bool.and_eq_true, beq_iff_eq] at this
    simp [inSide, this.2]

def without (id : Int) (L : List Ord) : List Ord := L.filter fun o => o.id != id
def reopen (id c : Int) (o : Ord) : Ord := if o.id = id then { o with opn := c } else o

theorem erase_without : ∀ {L : List Ord}, (L.map Ord.id).Nodup → ∀ {i : Nat} (hi : i < L.length), L.eraseIdx i = without L[i].id L
  | x :: L, h, 0, _ => by
    obtain ⟨h1, _⟩ := List.nodup_cons.1 h
    simp only [List.eraseIdx_zero, List.tail_cons, List.getElem_cons_zero, without]
    rw [List.filter_cons_of_neg (by simp)]
    refine (List.filter_eq_self.2 fun o ho => ?_).symm
    have : o.id ≠ x.id := fun e => h1 (by rw [← e]; exact List.mem_map_of_mem ho)
    simpa using this
  | x :: L, h, i + 1, hi => by
    obtain ⟨h1, h2⟩ := List.nodup_cons.1 h
    have hi' : i < L.length := by simpa using hi
    have hne : x.id ≠ L[i].id := fun e => h1 (by rw [e]; exact List.mem_map_of_mem (List.getElem_mem hi'))
    simp only [List.eraseIdx_cons_succ, List.getElem_cons_succ, without]
    rw [List.filter_cons_of_pos (by simpa using hne), erase_without h2 hi']
    rfl
theorem map_reopen_self {id c : Int} : ∀ {L : List Ord}, id ∉ L.map Ord.id → L.map (reopen id c) = L
  | [], _ => rfl
  | x :: L, h => by
    simp only [List.map_cons, List.mem_cons, not_or] at h
    rw [List.map_cons, map_reopen_self h.2]
    simp [reopen, Ne.symm h.1]
theorem set_reopen {c : Int} : ∀ {L : List Ord}, (L.map Ord.id).Nodup → ∀ {i : Nat} (hi : i < L.length), L.set i { L[i] with opn := c } = L.map (reopen L[i].id c)
  | x :: L, h, 0, _ => by
    obtain ⟨h1, _⟩ := List.nodup_cons.1 h
    rw [List.set_cons_zero, List.getElem_cons_zero, List.map_cons, map_reopen_self (c := c) h1]
    simp [reopen]
  | x :: L, h, i + 1, hi => by
    obtain ⟨h1, h2⟩ := List.nodup_cons.1 h
    have hi' : i < L.length := by simpa using hi
    have hne : x.id ≠ L[i].id := fun e => h1 (by rw [e]; exact List.mem_map_of_mem (List.getElem_mem hi'))
    simp only [List.set_cons_succ, List.getElem_cons_succ, List.map_cons]
    rw [← set_reopen h2 hi']
    simp [reopen, hne]
theorem reopen_price (id c : Int) (o : Ord) : (reopen id c o).price = o.price := by unfold reopen; split <;> rfl
theorem reopen_book (id c : Int) (o : Ord) : (reopen id c o).book = o.book := by unfold reopen; split <;> rfl
theorem reopen_side (id c : Int) (o : Ord) : (reopen id c o).side = o.side := by unfold reopen; split <;> rfl

theorem side_without (b s id : Int) (L : List Ord) : sideOf b s (without id L) = without id (sideOf b s L) := sideOf_filter b s _ L
theorem side_reopen (b s id c : Int) (L : List Ord) : sideOf b s (L.map (reopen id c)) = (sideOf b s L).map (reopen id c) := sideOf_map (reopen_price id c) (reopen_book id c) (reopen_side id c) L
theorem without_self {id : Int} {L : List Ord} (h : id ∉ L.map Ord.id) : without id L = L := by
  refine List.filter_eq_self.2 fun o ho => ?_
  have : o.id ≠ id := fun e => h (by rw [← e]; exact List.mem_map_of_mem ho)
  simpa using this

/-- One number, one order. -/
theorem id_inj {x y : Ord} {L : List Ord} (h : (L.map Ord.id).Nodup) (hx : x ∈ L) (hy : y ∈ L) (e : x.id = y.id) : x = y := by
  induction L with
  | nil => cases hx
  | cons z L ih =>
    obtain ⟨h1, h2⟩ := List.nodup_cons.1 h
    rcases List.mem_cons.1 hx with hx | hx
    · rcases List.mem_cons.1 hy with hy | hy
      · rw [hx, hy]
      · exact absurd (List.mem_map_of_mem (f := Ord.id) hy) (by rw [← e, hx]; exact h1)
    · rcases List.mem_cons.1 hy with hy | hy
      · exact absurd (List.mem_map_of_mem (f := Ord.id) hx) (by rw [e, hy]; exact h1)
      · exact ih h2 hx hy
end Go.Proofs.YtigpgnjgmaoejaaGreat

/- Plain mathematics: orders that meet, by the document's search and by the sorted side; the prices of an opening. No condition. -/
namespace Go.Proofs.YtigpgnjgmaoejaaGreat

/-- What an order meets on the facing side, the best one first. -/
def meetS (x : Ord) : List Ord → Int → Int → List Ev → List Ord × Int × Int × List Ev
  | [], t, o, E => ([], t, o, E)
  | y :: R, t, o, E =>
    if goodB x.side y.price x.price = true ∧ 0 < o then
      if y.trader = x.trader then meetS x R t o (E ++ [goneO y])
      else if y.opn ≤ o then meetS x R (t + y.opn) (o - y.opn) (E ++ [tradedE x.id y.id y.price y.opn])
      else ({ y with opn := y.opn - o } :: R, t + o, 0, E ++ [tradedE x.id y.id y.price o])
    else (y :: R, t, o, E)

/-- What the document's search and the sorted side come to is the same. -/
structure Met (x : Ord) (L L' : List Ord) (S' : List Ord) : Prop where
  ids : (L'.map Ord.id).Sublist (L.map Ord.id)
  side : sideOf x.book (3 - x.side) L' = S'
  other : ∀ b s, (b, s) ≠ (x.book, 3 - x.side) → sideOf b s L' = sideOf b s L
  len : L'.length ≤ L.length

theorem side_other {L : List Ord} (hn : (L.map Ord.id).Nodup) {i : Nat} (hi : i < L.length) {b s b2 s2 : Int} (hs : inSide b s L[i] = true) (hne : (b2, s2) ≠ (b, s)) : L[i].id ∉ (sideOf b2 s2 L).map Ord.id := fun hm => by
  obtain ⟨y, hy, e⟩ := List.mem_map.1 hm
  obtain ⟨hy1, hy2⟩ := mem_sideOf.1 hy
  have := id_inj hn hy1 (List.getElem_mem hi) e
  rw [this] at hy2
  simp only [inSide, Bool.and_eq_true, beq_iff_eq] at hs hy2
  exact hne (by rw [← hs.1, ← hs.2, ← hy2.1, ← hy2.2])

theorem mWhile_meetS {x : Ord} : ∀ {f : Nat} {S L : List Ord} {t o : Int} {E : List Ev}, (L.map Ord.id).Nodup → (∀ y ∈ L, 0 < y.opn) → sideOf x.book (3 - x.side) L = S → S.length < f →
    (mWhile x f L t o E).2 = (meetS x S t o E).2 ∧ Met x L (mWhile x f L t o E).1 (meetS x S t o E).1
  | 0, _, _, _, _, _, _, _, _, hf => by omega
  | f + 1, [], L, t, o, E, _, _, hS, _ => by
    have hb : bestO L x.book (3 - x.side) = none := by
      cases hb : bestO L x.book (3 - x.side) with
      | none => rfl
      | some i => obtain ⟨hi, _, h2⟩ := side_best hb; rw [hS] at h2; cases h2
    rw [mWhile_stop (by simp [crossB, hb])]
    exact ⟨rfl, List.Sublist.refl _, hS, fun _ _ _ => rfl, Nat.le_refl _⟩
  | f + 1, y :: R, L, t, o, E, hn, hp, hS, hf => by
    cases hb : bestO L x.book (3 - x.side) with
    | none => rw [side_none hb] at hS; cases hS
    | some i =>
      obtain ⟨hi, h1, h2⟩ := side_best hb
      rw [hS] at h2
      obtain ⟨hy, hR⟩ := List.cons.inj h2
      have hc : crossB L x = goodB x.side y.price x.price := by simp [crossB, hb, priceAt_eq hi, hy]
      have hn1 : ((L.eraseIdx i).map Ord.id).Nodup := hn.sublist ((List.eraseIdx_sublist _ _).map Ord.id)
      have hp1 : ∀ z ∈ L.eraseIdx i, 0 < z.opn := fun z hz => hp z ((List.eraseIdx_sublist _ _).subset hz)
      have hoth : ∀ b s, (b, s) ≠ (x.book, 3 - x.side) → sideOf b s (L.eraseIdx i) = sideOf b s L := fun b s hne => by
        rw [erase_without hn hi, side_without, without_self (side_other hn hi h1 hne)]
      have hlen : (L.eraseIdx i).length ≤ L.length := List.length_eraseIdx_le _ _
      have back : ∀ {L' S' : List Ord}, Met x (L.eraseIdx i) L' S' → Met x L L' S' := fun h => ⟨h.ids.trans ((List.eraseIdx_sublist _ _).map Ord.id), h.side, fun b s hne => (h.other b s hne).trans (hoth b s hne), Nat.le_trans h.len hlen⟩
      have hyp := hp _ (List.getElem_mem hi)
      rw [← hy] at hyp
      by_cases hgo : goodB x.side y.price x.price = true ∧ 0 < o
      · have hcr : crossB L x = true := by rw [hc]; exact hgo.1
        simp only [meetS]
        rw [if_pos hgo]
        by_cases ht : y.trader = x.trader
        · rw [mWhile_own hcr hgo.2 hb hi (by rw [← hy]; exact ht), if_pos ht, ← hy]
          have ih := mWhile_meetS (x := x) (f := f) (t := t) (o := o) (E := E ++ [goneE y.id y.opn]) hn1 hp1 hR.symm (by simp at hf; omega)
          exact ⟨ih.1, back ih.2⟩
        · rw [mWhile_meet hcr hgo.2 hb hi (by rw [← hy]; exact ht), if_neg ht, ← hy]
          by_cases hle : y.opn ≤ o
          · have hl : leastI o y.opn = y.opn := by unfold leastI; split <;> omega
            rw [hl, if_pos rfl, if_pos hle]
            have ih := mWhile_meetS (x := x) (f := f) (t := t + y.opn) (o := o - y.opn) (E := E ++ [tradedE x.id y.id y.price y.opn]) hn1 hp1 hR.symm (by simp at hf; omega)
            exact ⟨ih.1, back ih.2⟩
          · have hl : leastI o y.opn = o := by unfold leastI; split <;> omega
            rw [hl, if_neg (by omega), if_neg hle, mWhile_stop (by omega)]
            refine ⟨by simp, ?_⟩
            have hset : L.set i { y with opn := y.opn - o } = L.map (reopen y.id (y.opn - o)) := by rw [hy]; exact set_reopen hn hi
            simp only
            rw [hset]
            refine ⟨?_, ?_, fun b s hne => ?_, by simp⟩
            · rw [List.map_map]
              have : (Ord.id ∘ reopen y.id (y.opn - o)) = Ord.id := by
                funext z; simp only [Function.comp, reopen]; split <;> rfl
              rw [this]
              exact List.Sublist.refl _
            · rw [side_reopen, hS, List.map_cons]
              congr 1
              · simp [reopen]
              · refine map_reopen_self ?_
                have hnd := sideOf_nodup (b := x.book) (s := 3 - x.side) hn
                rw [hS, List.map_cons] at hnd
                exact (List.nodup_cons.1 hnd).1
            · rw [side_reopen]
              refine map_reopen_self ?_
              rw [hy]
              exact side_other hn hi h1 hne
      · rw [mWhile_stop (by rw [hc]; exact hgo)]
        simp only [meetS]
        rw [if_neg hgo]
        exact ⟨rfl, List.Sublist.refl _, hS, fun _ _ _ => rfl, Nat.le_refl _⟩
/-- How much is open to buy, and to sell, at a price. -/
def buyAt (B : List Ord) (q : Int) : Int := ((B.filter fun o => decide (q ≤ o.price)).map Ord.opn).sum
def sellAt (S : List Ord) (q : Int) : Int := ((S.filter fun o => decide (o.price ≤ q)).map Ord.opn).sum
/-- The prices at which one of them changes. -/
def brks (B S : List Ord) : List Int := B.map (fun o => o.price + 1) ++ S.map Ord.price

theorem has_max : ∀ {C : List Int}, C ≠ [] → ∃ d ∈ C, ∀ c ∈ C, c ≤ d
  | [], h => absurd rfl h
  | [a], _ => ⟨a, by simp, fun c hc => by simp at hc; omega⟩
  | a :: b :: C, _ => by
    obtain ⟨d, hd, hm⟩ := has_max (C := b :: C) (by simp)
    by_cases h : a ≤ d
    · exact ⟨d, by simp only [List.mem_cons] at hd ⊢; exact .inr hd, fun c hc => by
        rcases List.mem_cons.1 hc with rfl | hc
        · exact h
        · exact hm c hc⟩
    · exact ⟨a, by simp, fun c hc => by
        rcases List.mem_cons.1 hc with rfl | hc
        · omega
        · have := hm c hc; omega⟩

/-- Between two of them all prices are alike. -/
theorem brk_down {B S : List Ord} {q : Int} (h : 0 < sellAt S q) : ∃ d ∈ brks B S, d ≤ q ∧ buyAt B d = buyAt B q ∧ sellAt S d = sellAt S q := by
  have hne : (brks B S).filter (fun c => decide (c ≤ q)) ≠ [] := by
    intro he
    have hno : S.filter (fun o => decide (o.price ≤ q)) = [] := by
      rw [List.filter_eq_nil_iff]
      intro o ho hp
      have : o.price ∈ (brks B S).filter (fun c => decide (c ≤ q)) := List.mem_filter.2 ⟨by unfold brks; exact List.mem_append_right _ (List.mem_map_of_mem ho), hp⟩
      rw [he] at this
      cases this
    unfold sellAt at h
    rw [hno] at h
    simp at h
  obtain ⟨d, hd, hm⟩ := has_max hne
  obtain ⟨hd1, hd2⟩ := List.mem_filter.1 hd
  have hdq : d ≤ q := by simpa using hd2
  refine ⟨d, hd1, hdq, ?_, ?_⟩
  · unfold buyAt
    congr 2
    refine List.filter_congr fun o ho => ?_
    rw [Bool.eq_iff_iff]
    simp only [decide_eq_true_eq]
    refine ⟨fun h1 => ?_, fun h1 => by omega⟩
    apply Int.not_lt.1
    intro h2
    have := hm (o.price + 1) (List.mem_filter.2 ⟨by unfold brks; exact List.mem_append_left _ (List.mem_map_of_mem (f := fun o : Ord => o.price + 1) ho), by simp; omega⟩)
    omega
  · unfold sellAt
    congr 2
    refine List.filter_congr fun o ho => ?_
    rw [Bool.eq_iff_iff]
    simp only [decide_eq_true_eq]
    refine ⟨fun h1 => by omega, fun h1 => ?_⟩
    exact hm o.price (List.mem_filter.2 ⟨by unfold brks; exact List.mem_append_right _ (List.mem_map_of_mem ho), by simpa using h1⟩)
end Go.Proofs.YtigpgnjgmaoejaaGreat

/- Plain mathematics: what the program's commands come to, book by book, each side a sorted list (St, sDo). No condition. -/
namespace Go.Proofs.YtigpgnjgmaoejaaGreat

def upd {α : Type} (f : Nat → α) (j : Nat) (x : α) : Nat → α := fun k => if k = j then x else f k
theorem upd_self {α : Type} (f : Nat → α) (j : Nat) (x : α) : upd f j x j = x := by simp [upd]
theorem upd_other {α : Type} {f : Nat → α} {j k : Nat} {x : α} (h : k ≠ j) : upd f j x k = f k := by simp [upd, h]

def putO (sd : Int) (x : Ord) (M : List Ord) : List Ord := M.take (placeO sd x.price M) ++ x :: M.drop (placeO sd x.price M)
/-- The book with one order more. -/
def putM (x : Ord) (M : Nat → List Ord) : Nat → List Ord := fun j => if (j : Int) + 1 = x.side then putO x.side x (M j) else M j
def getO (M : Nat → List Ord) (id : Int) : Option Ord :=
  match findO (M 0) id with
  | some k => (M 0)[k]?
  | none => match findO (M 1) id with
    | some k => (M 1)[k]?
    | none => none

def wrp (n : Int) : Int := IntKind.i64.wrap n

/-- Whether a resting price is to be had by an order of a kind. -/
def rch (kind s p q : Int) : Bool := kind == 2 || !beatsB (3 - s) p q
/-- What an order meets on the facing side, the best one first. -/
def meetP (rc : Int → Bool) (x : Ord) : List Ord → Int → Int → List Ev → List Ord × Int × Int × List Ev
  | [], t, o, E => ([], t, o, E)
  | y :: R, t, o, E =>
    if rc y.price = true ∧ 0 < o then
      if y.trader = x.trader then meetP rc x R t o (E ++ [goneO y])
      else if y.opn ≤ o then meetP rc x R (t + y.opn) (o - y.opn) (E ++ [tradedE x.id y.id y.price y.opn])
      else ({ y with opn := y.opn - o } :: R, t + o, 0, E ++ [tradedE x.id y.id y.price o])
    else (y :: R, t, o, E)

/-- How much is open on a side at a price, but for a trader's own. -/
def openAtO (sd p own : Int) (L : List Ord) : Int := ((L.filter fun o => !beatsB sd p o.price && o.trader != own).map Ord.opn).sum

/-- The place of the facing side. -/
def fj (s : Int) : Nat := if s = 1 then 1 else 0
def waitsB (kind : Int) : Bool := kind == 1 || kind == 5
def mismB (M : Nat → List Ord) (x : Ord) (kind : Int) : Bool :=
  if kind = 5 then decide (0 < openAtO (3 - x.side) x.price 0 (M (fj x.side)))
  else if kind = 4 then decide (openAtO (3 - x.side) x.price x.trader (M (fj x.side)) < x.opn)
  else false
/-- Why an order may not come in. -/
def barsB (tr : Bool) (M : Nat → List Ord) (x : Ord) (kind : Int) : Int :=
  if tr = false ∧ kind ≠ 1 then 6 else if mismB M x kind = true then 7 else if waitsB kind = true ∧ 200 ≤ (M 0).length + (M 1).length then 5 else 0

/-- What comes of an order that comes in: the sides, how much is traded, the events. -/
def meetB (tr : Bool) (M : Nat → List Ord) (x : Ord) (kind : Int) : List Ord × Int × Int × List Ev :=
  if tr = true then meetP (rch kind x.side x.price) x (M (fj x.side)) 0 x.opn [] else (M (fj x.side), 0, x.opn, [])
def enterB (tr : Bool) (M : Nat → List Ord) (x : Ord) (kind : Int) : (Nat → List Ord) × Int × List Ev :=
  let m := meetB tr M x kind
  let M1 := upd M (fj x.side) m.1
  if m.2.2.1 = 0 then (M1, m.2.1, takenE x.id x.opn :: m.2.2.2)
  else if waitsB kind = true then (putM { x with opn := m.2.2.1 } M1, m.2.1, takenE x.id x.opn :: m.2.2.2 ++ [restsE x.id x.price m.2.2.1])
  else (M1, m.2.1, takenE x.id x.opn :: m.2.2.2 ++ [goneE x.id m.2.2.1])

/-- All books: whether they trade, what they traded, what rests; and what all traded. -/
structure St where
  tr : Nat → Bool
  td : Nat → Int
  M : Nat → Nat → List Ord
  vol : Int

def St.enter (s : St) (k : Nat) (x : Ord) (kind : Int) : St × List Ev :=
  ({ s with td := upd s.td k (wrp (s.td k + (enterB (s.tr k) (s.M k) x kind).2.1)), M := upd s.M k (enterB (s.tr k) (s.M k) x kind).1, vol := wrp (s.vol + (enterB (s.tr k) (s.M k) x kind).2.1) }, (enterB (s.tr k) (s.M k) x kind).2.2)
def St.rem (s : St) (k : Nat) (id : Int) : St := { s with M := upd s.M k fun j => without id (s.M k j) }
def St.reop (s : St) (k : Nat) (id c : Int) : St := { s with M := upd s.M k fun j => (s.M k j).map (reopen id c) }

/-- The order with a number, in the first k books. -/
def getTo (s : St) (id : Int) : Nat → Option Ord
  | 0 => none
  | k + 1 => match getTo s id k with
    | some x => some x
    | none => getO (s.M k) id
def getAt (s : St) (id : Int) : Option Ord := getTo s id 8
def getOf (s : St) (t id : Int) : Option Ord := (getAt s id).bind fun x => if x.trader = t then some x else none
def bk (b : Int) : Nat := (b - 1).toNat

def ordOf (c : Cmd) : Ord := ⟨c.id, c.trader, c.book, c.side, c.price, c.count⟩
def sNew (s : St) (c : Cmd) : St × List Ev :=
  if newOk c = false then (s, [refusedE c.id 2])
  else if (getAt s c.id).isSome = true then (s, [refusedE c.id 3])
  else if barsB (s.tr (bk c.book)) (s.M (bk c.book)) (ordOf c) c.kind ≠ 0 then (s, [refusedE c.id (barsB (s.tr (bk c.book)) (s.M (bk c.book)) (ordOf c) c.kind)])
  else s.enter (bk c.book) (ordOf c) c.kind

def sCancel (s : St) (c : Cmd) : St × List Ev :=
  if (inB c.id 1 1000000000 && inB c.trader 1 1000) = false then (s, [refusedE c.id 2])
  else match getOf s c.trader c.id with
    | none => (s, [refusedE c.id 4])
    | some x => (s.rem (bk x.book) x.id, [goneO x])

def chOk (c : Cmd) : Bool := inB c.id 1 1000000000 && inB c.trader 1 1000 && (inB c.price 1 1000000 && inB c.count 1 1000000)
def St.replace (s : St) (x : Ord) (p n : Int) : St × List Ev :=
  (((s.rem (bk x.book) x.id).enter (bk x.book) { x with price := p, opn := n } 1).1, goneO x :: ((s.rem (bk x.book) x.id).enter (bk x.book) { x with price := p, opn := n } 1).2)
def sChange (s : St) (c : Cmd) : St × List Ev :=
  if chOk c = false then (s, [refusedE c.id 2])
  else match getOf s c.trader c.id with
    | none => (s, [refusedE c.id 4])
    | some x => if c.price = x.price ∧ c.count ≤ x.opn then (s.reop (bk x.book) x.id c.count, [restsE x.id x.price c.count]) else s.replace x c.price c.count

def ofT2 (M : Nat → List Ord) (t : Int) : List Ord := (M 0).filter (isOf t) ++ (M 1).filter (isOf t)
def St.dropT (s : St) (t : Int) : St := { s with M := fun k j => (s.M k j).filter fun o => !isOf t o }
def sCancelAll (s : St) (c : Cmd) : St × List Ev :=
  if inB c.trader 1 1000 = false then (s, [refusedE 0 2])
  else (s.dropT c.trader, ((List.range 8).flatMap fun k => ofT2 (s.M k) c.trader).map goneO)

/-- The numbers of an order may be. -/
structure OrdOk (o : Ord) : Prop where
  opn : 1 ≤ o.opn ∧ o.opn ≤ 1000000
  price : 1 ≤ o.price ∧ o.price ≤ 1000000
  trader : 1 ≤ o.trader ∧ o.trader ≤ 1000
  id : 1 ≤ o.id ∧ o.id ≤ 1000000000

/-- No number twice in a book. -/
def Uniq (M : Nat → List Ord) : Prop := ((M 0).map Ord.id ++ (M 1).map Ord.id).Nodup

/-- A book is as it should be. -/
structure BkOk (k : Nat) (M : Nat → List Ord) : Prop where
  ord : ∀ j : Nat, j < 2 → ∀ o ∈ M j, OrdOk o ∧ o.book = (k : Int) + 1 ∧ o.side = (j : Int) + 1
  srt : ∀ j : Nat, j < 2 → Srt ((j : Int) + 1) (M j)
  ids : Uniq M
  cap : (M 0).length + (M 1).length ≤ 200

structure WF (s : St) : Prop where
  book : ∀ k, k < 8 → BkOk k (s.M k)
  td : ∀ k, k < 8 → wrp (s.td k) = s.td k
  vol : wrp s.vol = s.vol
end Go.Proofs.YtigpgnjgmaoejaaGreat

/- Plain mathematics: books stay as they should be under the program's commands; in a book that trades nothing rests that could trade. No condition. -/
namespace Go.Proofs.YtigpgnjgmaoejaaGreat

/-- All of an order but for what is open. -/
def key (o : Ord) : Int × Int × Int × Int × Int := (o.id, o.trader, o.book, o.side, o.price)
/-- Some of the orders, some of them with less open. -/
def SubL (L L' : List Ord) : Prop := (L'.map key).Sublist (L.map key) ∧ ∀ y ∈ L', 1 ≤ y.opn ∧ y.opn ≤ 1000000

theorem SubL.refl {L : List Ord} (h : ∀ y ∈ L, 1 ≤ y.opn ∧ y.opn ≤ 1000000) : SubL L L := ⟨List.Sublist.refl _, h⟩
theorem SubL.trans {A B C : List Ord} (h : SubL A B) (k : SubL B C) : SubL A C := ⟨k.1.trans h.1, k.2⟩
theorem SubL.ids {L L' : List Ord} (h : SubL L L') : (L'.map Ord.id).Sublist (L.map Ord.id) := by
  have := h.1.map (fun q : Int × Int × Int × Int × Int => q.1)
  simpa [List.map_map, Function.comp_def, key] using this
theorem SubL.prices {L L' : List Ord} (h : SubL L L') : (L'.map Ord.price).Sublist (L.map Ord.price) := by
  have := h.1.map (fun q : Int × Int × Int × Int × Int => q.2.2.2.2)
  simpa [List.map_map, Function.comp_def, key] using this
theorem SubL.mem {L L' : List Ord} (h : SubL L L') {y : Ord} (hy : y ∈ L') : ∃ z ∈ L, key y = key z := by
  have := h.1.subset (List.mem_map_of_mem (f := key) hy)
  obtain ⟨z, hz, e⟩ := List.mem_map.1 this
  exact ⟨z, hz, e.symm⟩
theorem SubL.len {L L' : List Ord} (h : SubL L L') : L'.length ≤ L.length := by
  have := h.1.length_le
  simpa using this
theorem srt_price {s : Int} {L : List Ord} : Srt s L ↔ (L.map Ord.price).Pairwise fun a b => beatsB s b a = false := by
  unfold Srt
  rw [List.pairwise_map]
theorem SubL.srt {s : Int} {L L' : List Ord} (h : SubL L L') (k : Srt s L) : Srt s L' := srt_price.2 ((srt_price.1 k).sublist h.prices)
theorem SubL.filter {L : List Ord} (h : ∀ y ∈ L, 1 ≤ y.opn ∧ y.opn ≤ 1000000) (p : Ord → Bool) : SubL L (L.filter p) :=
  ⟨List.filter_sublist.map key, fun y hy => h y (List.mem_filter.1 hy).1⟩
theorem SubL.reopen {L : List Ord} (h : ∀ y ∈ L, 1 ≤ y.opn ∧ y.opn ≤ 1000000) {id c : Int} (hc : 1 ≤ c ∧ c ≤ 1000000) : SubL L (L.map (reopen id c)) := by
  refine ⟨?_, fun y hy => ?_⟩
  · rw [List.map_map]
    have : (key ∘ Go.Proofs.YtigpgnjgmaoejaaGreat.reopen id c) = key := by
      funext o
      simp only [Function.comp, Go.Proofs.YtigpgnjgmaoejaaGreat.reopen, key]
      split <;> rfl
    rw [this]
    exact List.Sublist.refl _
  · obtain ⟨z, hz, rfl⟩ := List.mem_map.1 hy
    unfold Go.Proofs.YtigpgnjgmaoejaaGreat.reopen
    split
    · exact hc
    · exact h z hz

theorem BkOk.opns {k : Nat} {M : Nat → List Ord} (h : BkOk k M) {j : Nat} (hj : j < 2) : ∀ y ∈ M j, 1 ≤ y.opn ∧ y.opn ≤ 1000000 := fun y hy => (h.ord j hj y hy).1.opn
theorem BkOk.sub {k : Nat} {M M' : Nat → List Ord} (h : BkOk k M) (hs : ∀ j, j < 2 → SubL (M j) (M' j)) : BkOk k M' := by
  have s0 := hs 0 (by omega)
  have s1 := hs 1 (by omega)
  refine ⟨fun j hj o ho => ?_, fun j hj => (hs j hj).srt (h.srt j hj), ?_, ?_⟩
  · obtain ⟨z, hz, e⟩ := (hs j hj).mem ho
    have hk := h.ord j hj z hz
    have hop := (hs j hj).2 o ho
    simp only [key, Prod.mk.injEq] at e
    obtain ⟨e1, e2, e3, e4, e5⟩ := e
    exact ⟨⟨hop, by rw [e5]; exact hk.1.price, by rw [e2]; exact hk.1.trader, by rw [e1]; exact hk.1.id⟩, by rw [e3]; exact hk.2.1, by rw [e4]; exact hk.2.2⟩
  · exact h.ids.sublist (s0.ids.append s1.ids)
  · have := h.cap
    have := s0.len
    have := s1.len
    omega

/-- Nothing rests that could trade. -/
def Unx (M : Nat → List Ord) : Prop := ∀ a ∈ M 0, ∀ b ∈ M 1, a.price < b.price
theorem Unx.sub {M M' : Nat → List Ord} (h : Unx M) (hs : ∀ j, j < 2 → SubL (M j) (M' j)) : Unx M' := fun a ha b hb => by
  obtain ⟨a', ha', ea⟩ := (hs 0 (by omega)).mem ha
  obtain ⟨b', hb', eb⟩ := (hs 1 (by omega)).mem hb
  have := h a' ha' b' hb'
  simp only [key, Prod.mk.injEq] at ea eb
  rw [ea.2.2.2.2, eb.2.2.2.2]
  exact this

theorem insB_perm (s : Int) (x : Ord) : ∀ M : List Ord, (insB s x M).Perm (x :: M)
  | [] => List.Perm.refl _
  | y :: M => by
    unfold insB
    split
    · exact List.Perm.refl _
    · exact ((insB_perm s x M).cons y).trans (List.Perm.swap x y M)
theorem srt_insB {s : Int} {x : Ord} : ∀ {M : List Ord}, Srt s M → Srt s (insB s x M)
  | [], _ => List.pairwise_singleton _ _
  | y :: M, h => by
    obtain ⟨h1, h2⟩ := List.pairwise_cons.1 h
    unfold insB
    split
    · rename_i hb
      have hxy := bt_asym hb
      refine List.pairwise_cons.2 ⟨fun z hz => ?_, h⟩
      rcases List.mem_cons.1 hz with rfl | hz
      · exact hxy
      · exact nb_trans (h1 z hz) hxy
    · rename_i hb
      refine List.pairwise_cons.2 ⟨fun z hz => ?_, srt_insB h2⟩
      rcases List.mem_cons.1 ((insB_perm s x M).mem_iff.1 hz) with rfl | hz
      · simpa using hb
      · exact h1 z hz
theorem putO_insB {s : Int} {x : Ord} {M : List Ord} (h : Srt s M) : putO s x M = insB s x M := by
  rw [insB_place h]
  simp [putO]
theorem putO_perm {s : Int} {x : Ord} {M : List Ord} (h : Srt s M) : (putO s x M).Perm (x :: M) := by rw [putO_insB h]; exact insB_perm s x M
theorem putO_srt {s : Int} {x : Ord} {M : List Ord} (h : Srt s M) : Srt s (putO s x M) := by rw [putO_insB h]; exact srt_insB h

theorem BkOk.put {k : Nat} {M : Nat → List Ord} {x : Ord} (h : BkOk k M) (hx : OrdOk x) (hb : x.book = (k : Int) + 1) (hs : x.side = 1 ∨ x.side = 2) (hn : ∀ j, j < 2 → x.id ∉ (M j).map Ord.id) (hl : (M 0).length + (M 1).length < 200) : BkOk k (putM x M) := by
  have hp : ∀ j : Nat, j < 2 → (j : Int) + 1 = x.side → putM x M j = putO x.side x (M j) ∧ Srt x.side (M j) := fun j hj e => ⟨by simp [putM, e], by rw [← e]; exact h.srt j hj⟩
  have hq : ∀ j : Nat, ¬ (j : Int) + 1 = x.side → putM x M j = M j := fun j e => by simp [putM, e]
  have hc : ((0 : Nat) : Int) + 1 = x.side ∧ ¬ ((1 : Nat) : Int) + 1 = x.side ∨ ¬ ((0 : Nat) : Int) + 1 = x.side ∧ ((1 : Nat) : Int) + 1 = x.side := by omega
  refine ⟨fun j hj o ho => ?_, fun j hj => ?_, ?_, ?_⟩
  · by_cases e : (j : Int) + 1 = x.side
    · rw [(hp j hj e).1, (putO_perm (hp j hj e).2).mem_iff, List.mem_cons] at ho
      rcases ho with rfl | ho
      · exact ⟨hx, hb, e.symm⟩
      · exact h.ord j hj o ho
    · rw [hq j e] at ho
      exact h.ord j hj o ho
  · by_cases e : (j : Int) + 1 = x.side
    · rw [(hp j hj e).1, e]
      exact putO_srt (hp j hj e).2
    · rw [hq j e]
      exact h.srt j hj
  · unfold Uniq
    have h0 := hn 0 (by omega)
    have h1 := hn 1 (by omega)
    have hi := h.ids
    unfold Uniq at hi
    rcases hc with ⟨e0, e1⟩ | ⟨e0, e1⟩
    · rw [(hp 0 (by omega) e0).1, hq 1 e1]
      have hpm : ((putO x.side x (M 0)).map Ord.id ++ (M 1).map Ord.id).Perm (x.id :: ((M 0).map Ord.id ++ (M 1).map Ord.id)) := ((putO_perm (hp 0 (by omega) e0).2).map Ord.id).append_right _
      rw [hpm.nodup_iff, List.nodup_cons]
      exact ⟨fun hm => (List.mem_append.1 hm).elim h0 h1, hi⟩
    · rw [hq 0 e0, (hp 1 (by omega) e1).1]
      have hpm : ((M 0).map Ord.id ++ (putO x.side x (M 1)).map Ord.id).Perm (x.id :: ((M 0).map Ord.id ++ (M 1).map Ord.id)) :=
        (((putO_perm (hp 1 (by omega) e1).2).map Ord.id).append_left _).trans List.perm_middle
      rw [hpm.nodup_iff, List.nodup_cons]
      exact ⟨fun hm => (List.mem_append.1 hm).elim h0 h1, hi⟩
  · rcases hc with ⟨e0, e1⟩ | ⟨e0, e1⟩
    · rw [(hp 0 (by omega) e0).1, hq 1 e1, (putO_perm (hp 0 (by omega) e0).2).length_eq, List.length_cons]
      omega
    · rw [hq 0 e0, (hp 1 (by omega) e1).1, (putO_perm (hp 1 (by omega) e1).2).length_eq, List.length_cons]
      omega

/-- What is left behind a meeting. -/
structure MetP (rc : Int → Bool) (L : List Ord) (t o : Int) (r : List Ord × Int × Int × List Ev) : Prop where
  sub : SubL L r.1
  sum : r.2.1 + r.2.2.1 = t + o
  left : 0 ≤ r.2.2.1 ∧ r.2.2.1 ≤ o
  stop : 0 < r.2.2.1 → ∀ y R, r.1 = y :: R → rc y.price = false
theorem meetP_spec {rc : Int → Bool} {x : Ord} : ∀ {L : List Ord} {t o : Int} {E : List Ev}, (∀ y ∈ L, 1 ≤ y.opn ∧ y.opn ≤ 1000000) → 0 ≤ o → MetP rc L t o (meetP rc x L t o E)
  | [], t, o, E, _, ho => ⟨SubL.refl (by simp), rfl, ⟨ho, Int.le_refl _⟩, fun _ y R h => by cases h⟩
  | y :: R, t, o, E, hL, ho => by
    have hR : ∀ z ∈ R, 1 ≤ z.opn ∧ z.opn ≤ 1000000 := fun z hz => hL z (List.mem_cons_of_mem _ hz)
    have hy := hL y (by simp)
    have up : ∀ {t' o' : Int} {r}, MetP rc R t' o' r → t' + o' = t + o → o' ≤ o → MetP rc (y :: R) t o r := fun h e l =>
      ⟨⟨by rw [List.map_cons]; exact h.sub.1.cons _, h.sub.2⟩, h.sum.trans e, ⟨h.left.1, Int.le_trans h.left.2 l⟩, h.stop⟩
    simp only [meetP]
    split
    · rename_i hgo
      split
      · exact up (meetP_spec hR ho) rfl (Int.le_refl _)
      · split
        · rename_i hle
          exact up (meetP_spec hR (by omega)) (by omega) (by omega)
        · rename_i hle
          refine ⟨⟨List.Sublist.refl _, fun z hz => ?_⟩, by simp only; omega, by simp only; omega, fun h => by simp only at h; omega⟩
          rcases List.mem_cons.1 hz with rfl | hz
          · simp only; omega
          · exact hR z hz
    · rename_i hno
      exact ⟨SubL.refl hL, rfl, ⟨ho, Int.le_refl _⟩, fun h z R' e => by
        obtain ⟨rfl, rfl⟩ := List.cons.inj e
        cases hr : rc y.price with
        | false => rfl
        | true => exact absurd ⟨hr, h⟩ hno⟩

theorem fj_lt (s : Int) : fj s < 2 := by unfold fj; split <;> omega
theorem fj_side {s : Int} (h : s = 1 ∨ s = 2) : ((fj s : Nat) : Int) + 1 = 3 - s := by rcases h with rfl | rfl <;> decide

theorem meetB_spec {tr : Bool} {M : Nat → List Ord} {x : Ord} {kind : Int} (hM : ∀ y ∈ M (fj x.side), 1 ≤ y.opn ∧ y.opn ≤ 1000000) (hx : 0 ≤ x.opn) :
    SubL (M (fj x.side)) (meetB tr M x kind).1 ∧ (meetB tr M x kind).2.1 + (meetB tr M x kind).2.2.1 = x.opn ∧ 0 ≤ (meetB tr M x kind).2.2.1 ∧ (meetB tr M x kind).2.2.1 ≤ x.opn ∧
      (tr = true → 0 < (meetB tr M x kind).2.2.1 → ∀ y R, (meetB tr M x kind).1 = y :: R → rch kind x.side x.price y.price = false) := by
  cases tr with
  | true =>
    have h := meetP_spec (rc := rch kind x.side x.price) (x := x) (t := 0) (o := x.opn) (E := []) hM hx
    have e : meetB true M x kind = meetP (rch kind x.side x.price) x (M (fj x.side)) 0 x.opn [] := by simp [meetB]
    rw [e]
    exact ⟨h.sub, by have := h.sum; omega, h.left.1, h.left.2, fun _ => h.stop⟩
  | false =>
    have e : meetB false M x kind = (M (fj x.side), 0, x.opn, []) := by simp [meetB]
    rw [e]
    exact ⟨SubL.refl hM, by simp, hx, Int.le_refl _, fun h => by cases h⟩

theorem sub_upd {M : Nat → List Ord} {k : Nat} {L' : List Ord} (hM : ∀ j, j < 2 → ∀ y ∈ M j, 1 ≤ y.opn ∧ y.opn ≤ 1000000) (h : SubL (M k) L') : ∀ j, j < 2 → SubL (M j) (upd M k L' j) := fun j hj => by
  by_cases e : j = k
  · subst e
    rw [upd_self]
    exact h
  · rw [upd_other e]
    exact SubL.refl (hM j hj)

/-- What an order that comes in must be. -/
structure Comes (k : Nat) (M : Nat → List Ord) (x : Ord) (kind : Int) : Prop where
  opn : 1 ≤ x.opn ∧ x.opn ≤ 1000000
  price : kind = 2 ∨ 1 ≤ x.price ∧ x.price ≤ 1000000
  trader : 1 ≤ x.trader ∧ x.trader ≤ 1000
  id : 1 ≤ x.id ∧ x.id ≤ 1000000000
  book : x.book = (k : Int) + 1
  side : x.side = 1 ∨ x.side = 2
  new : ∀ j, j < 2 → x.id ∉ (M j).map Ord.id
  room : waitsB kind = true → (M 0).length + (M 1).length < 200

theorem waits_not2 {kind : Int} (h : waitsB kind = true) : kind ≠ 2 := by
  rintro rfl
  simp [waitsB] at h

theorem enterB_ok {k : Nat} {tr : Bool} {M : Nat → List Ord} {x : Ord} {kind : Int} (h : BkOk k M) (hx : Comes k M x kind) : BkOk k (enterB tr M x kind).1 ∧ (tr = true → Unx M → Unx (enterB tr M x kind).1) := by
  have hop : ∀ j, j < 2 → ∀ y ∈ M j, 1 ≤ y.opn ∧ y.opn ≤ 1000000 := fun j hj => h.opns hj
  obtain ⟨hsub, hsum, hl0, hl1, hst⟩ := meetB_spec (tr := tr) (kind := kind) (hop _ (fj_lt x.side)) (by have := hx.opn; omega)
  have hsu := sub_upd hop hsub
  have h1 : BkOk k (upd M (fj x.side) (meetB tr M x kind).1) := h.sub hsu
  unfold enterB
  simp only
  split
  · exact ⟨h1, fun _ hu => hu.sub hsu⟩
  · rename_i hz
    split
    · rename_i hw
      have hlen : ∀ j, j < 2 → (upd M (fj x.side) (meetB tr M x kind).1 j).length ≤ (M j).length := fun j hj => (hsu j hj).len
      refine ⟨h1.put ⟨by simp only; have := hx.opn; omega, ?_, hx.trader, hx.id⟩ hx.book hx.side (fun j hj hm => hx.new j hj ((hsu j hj).ids.subset hm)) ?_, fun htr hu => ?_⟩
      · exact hx.price.resolve_left (waits_not2 hw)
      · have := hx.room hw
        have := hlen 0 (by omega)
        have := hlen 1 (by omega)
        omega
      · have hu1 := hu.sub hsu
        have hf : ∀ y ∈ upd M (fj x.side) (meetB tr M x kind).1 (fj x.side), beatsB (3 - x.side) x.price y.price = true := by
          rw [upd_self]
          have hsrt : Srt (3 - x.side) (meetB tr M x kind).1 := hsub.srt (by rw [← fj_side hx.side]; exact h.srt _ (fj_lt _))
          have hstop := hst htr (by omega)
          intro y hy
          cases hF : (meetB tr M x kind).1 with
          | nil => rw [hF] at hy; cases hy
          | cons z R =>
            have hz2 := hstop z R hF
            have hkk := waits_not2 hw
            have hbz : beatsB (3 - x.side) x.price z.price = true := by
              simp only [rch, Bool.or_eq_false_iff, Bool.not_eq_false'] at hz2
              exact hz2.2
            rw [hF] at hy hsrt
            obtain ⟨hs1, _⟩ := List.pairwise_cons.1 hsrt
            rcases List.mem_cons.1 hy with rfl | hy
            · exact hbz
            · have hnb := hs1 y hy
              rcases hx.side with e | e <;> rw [e] at hnb hbz ⊢ <;> simp only [beatsB, Bool.or_eq_false_iff, Bool.and_eq_false_iff, beq_eq_false_iff_ne, decide_eq_false_iff_not, ne_eq, Bool.or_eq_true, Bool.and_eq_true, beq_iff_eq, decide_eq_true_eq] at hnb hbz ⊢ <;> omega
        generalize hG : upd M (fj x.side) (meetB tr M x kind).1 = G at *
        intro a ha b hb
        simp only at ha hb
        rcases hx.side with e | e
        · have hp0 : putM { x with opn := (meetB tr M x kind).2.2.1 } G 0 = putO 1 { x with opn := (meetB tr M x kind).2.2.1 } (G 0) := by simp [putM, e]
          have hp1 : putM { x with opn := (meetB tr M x kind).2.2.1 } G 1 = G 1 := by simp [putM, e]
          rw [hp0, (putO_perm (s := 1) (h1.srt 0 (by omega))).mem_iff, List.mem_cons] at ha
          rw [hp1] at hb
          rcases ha with rfl | ha
          · have := hf b (by rw [e]; exact hb)
            rw [e] at this
            simp [beatsB] at this
            exact this
          · exact hu1 a ha b hb
        · have hp0 : putM { x with opn := (meetB tr M x kind).2.2.1 } G 0 = G 0 := by simp [putM, e]
          have hp1 : putM { x with opn := (meetB tr M x kind).2.2.1 } G 1 = putO 2 { x with opn := (meetB tr M x kind).2.2.1 } (G 1) := by simp [putM, e]
          rw [hp0] at ha
          rw [hp1, (putO_perm (s := 2) (h1.srt 1 (by omega))).mem_iff, List.mem_cons] at hb
          rcases hb with rfl | hb
          · have := hf a (by rw [e]; exact ha)
            rw [e] at this
            simp [beatsB] at this
            exact this
          · exact hu1 a ha b hb
    · exact ⟨h1, fun _ hu => hu.sub hsu⟩
end Go.Proofs.YtigpgnjgmaoejaaGreat

/- Plain mathematics: the commands New, Cancel, Change, CancelAll keep all books as they should be, and nothing comes to rest that could trade. No condition. -/
namespace Go.Proofs.YtigpgnjgmaoejaaGreat

theorem wrp_wrp (n : Int) : wrp (wrp n) = wrp n := by unfold wrp; rw [IntKind.wrap_i64, IntKind.wrap_i64]; omega

theorem getO_mem {M : Nat → List Ord} {id : Int} {x : Ord} (h : getO M id = some x) : x.id = id ∧ ∃ j, j < 2 ∧ x ∈ M j := by
  have hm : ∀ {L : List Ord} {i : Nat}, findO L id = some i → ∀ {y}, L[i]? = some y → y.id = id ∧ y ∈ L := fun {L} {i} hf {y} hy => by
    unfold findO at hf
    obtain ⟨hi, h1, _⟩ := List.findIdx?_eq_some_iff_getElem.1 hf
    rw [List.getElem?_eq_getElem hi] at hy
    cases hy
    exact ⟨by simpa using h1, List.getElem_mem hi⟩
  unfold getO at h
  split at h
  · rename_i i hi
    obtain ⟨a, b⟩ := hm hi h
    exact ⟨a, 0, by omega, b⟩
  · split at h
    · rename_i i hi
      obtain ⟨a, b⟩ := hm hi h
      exact ⟨a, 1, by omega, b⟩
    · cases h
theorem findO_not {L : List Ord} {id : Int} (h : findO L id = none) : id ∉ L.map Ord.id := by
  unfold findO at h
  rw [List.findIdx?_eq_none_iff] at h
  intro hm
  obtain ⟨o, ho, e⟩ := List.mem_map.1 hm
  have := h o ho
  simp [e] at this
theorem findO_some_lt {L : List Ord} {id : Int} {i : Nat} (h : findO L id = some i) : i < L.length := by
  unfold findO at h
  exact (List.findIdx?_eq_some_iff_getElem.1 h).1
theorem getO_not {M : Nat → List Ord} {id : Int} (h : getO M id = none) : ∀ j, j < 2 → id ∉ (M j).map Ord.id := by
  unfold getO at h
  split at h
  · rename_i i hi
    rw [List.getElem?_eq_getElem (findO_some_lt hi)] at h
    cases h
  · rename_i h0
    split at h
    · rename_i i hi
      rw [List.getElem?_eq_getElem (findO_some_lt hi)] at h
      cases h
    · rename_i h1
      intro j hj
      match j, hj with
      | 0, _ => exact findO_not h0
      | 1, _ => exact findO_not h1
theorem getTo_some {s : St} {id : Int} {x : Ord} : ∀ {n : Nat}, getTo s id n = some x → ∃ k, k < n ∧ getO (s.M k) id = some x
  | 0, h => by cases h
  | n + 1, h => by
    unfold getTo at h
    split at h
    · rename_i y hy
      cases h
      obtain ⟨k, hk, e⟩ := getTo_some hy
      exact ⟨k, by omega, e⟩
    · exact ⟨n, by omega, h⟩
theorem getTo_none {s : St} {id : Int} : ∀ {n : Nat}, getTo s id n = none → ∀ k, k < n → getO (s.M k) id = none
  | 0, _, k, hk => by omega
  | n + 1, h, k, hk => by
    unfold getTo at h
    split at h
    · cases h
    · rename_i hn
      by_cases e : k = n
      · subst e; exact h
      · exact getTo_none hn k (by omega)
theorem bk_of {x : Ord} {k : Nat} (h : x.book = (k : Int) + 1) : bk x.book = k := by unfold bk; omega
/-- Where an order that is found rests. -/
theorem getAt_in {s : St} {id : Int} {x : Ord} (hw : WF s) (h : getAt s id = some x) : x.id = id ∧ bk x.book < 8 ∧ x.book = ((bk x.book : Nat) : Int) + 1 ∧ getO (s.M (bk x.book)) id = some x ∧ ∃ j, j < 2 ∧ x ∈ s.M (bk x.book) j := by
  obtain ⟨k, hk, e⟩ := getTo_some h
  obtain ⟨h1, j, hj, hm⟩ := getO_mem e
  have := (hw.book k hk).ord j hj x hm
  have hb := bk_of this.2.1
  rw [hb]
  exact ⟨h1, hk, this.2.1, e, j, hj, hm⟩
theorem getOf_in {s : St} {t id : Int} {x : Ord} (hw : WF s) (h : getOf s t id = some x) : x.trader = t ∧ x.id = id ∧ bk x.book < 8 ∧ x.book = ((bk x.book : Nat) : Int) + 1 ∧ getO (s.M (bk x.book)) id = some x ∧ ∃ j, j < 2 ∧ x ∈ s.M (bk x.book) j := by
  unfold getOf at h
  cases hg : getAt s id with
  | none => rw [hg] at h; cases h
  | some y =>
    rw [hg] at h
    simp only [Option.bind_some] at h
    split at h
    · rename_i e
      cases h
      exact ⟨e, getAt_in hw hg⟩
    · cases h

/-- All is as it should be still. -/
structure Keeps (s s' : St) : Prop where
  wf : WF s'
  tr : s'.tr = s.tr
  unx : ∀ k, k < 8 → s.tr k = true → Unx (s.M k) → Unx (s'.M k)
theorem Keeps.refl {s : St} (h : WF s) : Keeps s s := ⟨h, rfl, fun _ _ _ h => h⟩
theorem Keeps.trans {a b c : St} (h : Keeps a b) (k : Keeps b c) : Keeps a c := ⟨k.wf, k.tr.trans h.tr, fun i hi ht hu => k.unx i hi (by rw [h.tr]; exact ht) (h.unx i hi ht hu)⟩

theorem keeps_sub {s : St} (h : WF s) {M' : Nat → Nat → List Ord} (hs : ∀ k, k < 8 → ∀ j, j < 2 → SubL (s.M k j) (M' k j)) : Keeps s { s with M := M' } :=
  ⟨⟨fun k hk => (h.book k hk).sub (hs k hk), h.td, h.vol⟩, rfl, fun k hk _ hu => hu.sub (hs k hk)⟩
theorem sub_one {s : St} (h : WF s) {i : Nat} {N : Nat → List Ord} (hs : i < 8 → ∀ j, j < 2 → SubL (s.M i j) (N j)) : ∀ k, k < 8 → ∀ j, j < 2 → SubL (s.M k j) (upd s.M i N k j) := fun k hk j hj => by
  by_cases e : k = i
  · subst e
    rw [upd_self]
    exact hs hk j hj
  · rw [upd_other e]
    exact SubL.refl ((h.book k hk).opns hj)
theorem rem_keeps {s : St} (h : WF s) (i : Nat) (id : Int) : Keeps s (s.rem i id) := keeps_sub h (sub_one h fun hi _ hj => SubL.filter ((h.book i hi).opns hj) _)
theorem reop_keeps {s : St} (h : WF s) (i : Nat) (id : Int) {c : Int} (hc : 1 ≤ c ∧ c ≤ 1000000) : Keeps s (s.reop i id c) := keeps_sub h (sub_one h fun hi _ hj => SubL.reopen ((h.book i hi).opns hj) hc)
theorem dropT_keeps {s : St} (h : WF s) (t : Int) : Keeps s (s.dropT t) := keeps_sub h fun k hk _ hj => SubL.filter ((h.book k hk).opns hj) _
theorem enter_keeps {s : St} (h : WF s) {k : Nat} (hk : k < 8) {x : Ord} {kind : Int} (hx : Comes k (s.M k) x kind) : Keeps s (s.enter k x kind).1 := by
  obtain ⟨h1, h2⟩ := enterB_ok (tr := s.tr k) (h.book k hk) hx
  refine ⟨⟨fun i hi => ?_, fun i hi => ?_, wrp_wrp _⟩, rfl, fun i hi ht hu => ?_⟩
  · simp only [St.enter]
    by_cases e : i = k
    · subst e
      rw [upd_self]
      exact h1
    · rw [upd_other e]
      exact h.book i hi
  · simp only [St.enter]
    by_cases e : i = k
    · subst e
      rw [upd_self]
      exact wrp_wrp _
    · rw [upd_other e]
      exact h.td i hi
  · simp only [St.enter]
    by_cases e : i = k
    · subst e
      rw [upd_self]
      exact h2 ht hu
    · rw [upd_other e]
      exact hu

theorem newOk_all {c : Cmd} (h : newOk c = true) : (1 ≤ c.id ∧ c.id ≤ 1000000000) ∧ (1 ≤ c.trader ∧ c.trader ≤ 1000) ∧ (1 ≤ c.book ∧ c.book ≤ 8) ∧ (c.side = 1 ∨ c.side = 2) ∧ (1 ≤ c.kind ∧ c.kind ≤ 5) ∧ (c.kind = 2 ∨ 1 ≤ c.price ∧ c.price ≤ 1000000) ∧ (1 ≤ c.count ∧ c.count ≤ 1000000) := by
  simp only [newOk, inB, sideOk, Bool.and_eq_true, Bool.or_eq_true, decide_eq_true_eq, beq_iff_eq] at h
  obtain ⟨⟨⟨⟨⟨⟨h1, h2⟩, h3⟩, h4⟩, h5⟩, h6⟩, h7⟩ := h
  exact ⟨h1, h2, h3, h4, h5, h6, h7⟩
theorem bars_room {tr : Bool} {M : Nat → List Ord} {x : Ord} {kind : Int} (h : barsB tr M x kind = 0) : waitsB kind = true → (M 0).length + (M 1).length < 200 := by
  intro hw
  unfold barsB at h
  split at h
  · omega
  · split at h
    · omega
    · split at h
      · omega
      · rename_i hn
        exact Nat.lt_of_not_le fun hl => hn ⟨hw, hl⟩
theorem sNew_comes {s : St} {c : Cmd} (hok : newOk c = true) (hg : getAt s c.id = none) (hb : barsB (s.tr (bk c.book)) (s.M (bk c.book)) (ordOf c) c.kind = 0) : bk c.book < 8 ∧ Comes (bk c.book) (s.M (bk c.book)) (ordOf c) c.kind := by
  obtain ⟨h1, h2, h3, h4, h5, h6, h7⟩ := newOk_all hok
  have hk : bk c.book < 8 := by unfold bk; omega
  exact ⟨hk, h7, h6, h2, h1, by show c.book = _; unfold bk; omega, h4, getO_not (getTo_none hg _ hk), bars_room hb⟩
theorem sNew_keeps {s : St} (h : WF s) (c : Cmd) : Keeps s (sNew s c).1 := by
  unfold sNew
  split
  · exact Keeps.refl h
  · rename_i hok
    split
    · exact Keeps.refl h
    · rename_i hg
      split
      · exact Keeps.refl h
      · rename_i hb
        obtain ⟨hk, hc⟩ := sNew_comes (by simpa using hok) (by simpa using hg) (by simpa using hb)
        exact enter_keeps h hk hc
theorem sCancel_keeps {s : St} (h : WF s) (c : Cmd) : Keeps s (sCancel s c).1 := by
  unfold sCancel
  split
  · exact Keeps.refl h
  · split
    · exact Keeps.refl h
    · exact rem_keeps h _ _
theorem chOk_all {c : Cmd} (h : chOk c = true) : (1 ≤ c.price ∧ c.price ≤ 1000000) ∧ (1 ≤ c.count ∧ c.count ≤ 1000000) := by
  simp only [chOk, inB, Bool.and_eq_true, decide_eq_true_eq] at h
  exact h.2
/-- An order that was taken out comes in anew. -/
theorem replace_comes {s : St} (h : WF s) {x : Ord} {t id : Int} (hg : getOf s t id = some x) {p n : Int} (hp : 1 ≤ p ∧ p ≤ 1000000) (hn : 1 ≤ n ∧ n ≤ 1000000) :
    bk x.book < 8 ∧ Comes (bk x.book) ((s.rem (bk x.book) x.id).M (bk x.book)) { x with price := p, opn := n } 1 := by
  obtain ⟨h1, h2, h3, h4, h5, j, hj, hm⟩ := getOf_in h hg
  have hB := h.book _ h3
  have ho := hB.ord j hj x hm
  have hM : (s.rem (bk x.book) x.id).M (bk x.book) = fun i => without x.id (s.M (bk x.book) i) := by simp [St.rem, upd_self]
  refine ⟨h3, hn, .inr hp, ho.1.trader, ho.1.id, h4, ?_, fun i hi hmem => ?_, fun _ => ?_⟩
  · have := ho.2.2; show x.side = 1 ∨ x.side = 2; omega
  · rw [hM] at hmem
    obtain ⟨y, hy, e⟩ := List.mem_map.1 hmem
    have := (List.mem_filter.1 hy).2
    simp only [bne_iff_ne, ne_eq] at this
    exact this e
  · rw [hM]
    have l0 : (without x.id (s.M (bk x.book) 0)).length ≤ (s.M (bk x.book) 0).length := List.length_filter_le _ _
    have l1 : (without x.id (s.M (bk x.book) 1)).length ≤ (s.M (bk x.book) 1).length := List.length_filter_le _ _
    have hlt : (without x.id (s.M (bk x.book) j)).length < (s.M (bk x.book) j).length := by
      unfold without
      rw [List.length_filter_lt_length_iff_exists]
      exact ⟨x, hm, by simp⟩
    have hc := hB.cap
    simp only
    match j, hj with
    | 0, _ => omega
    | 1, _ => omega
theorem sChange_keeps {s : St} (h : WF s) (c : Cmd) : Keeps s (sChange s c).1 := by
  unfold sChange
  split
  · exact Keeps.refl h
  · rename_i hok
    obtain ⟨hp, hn⟩ := chOk_all (by simpa using hok)
    split
    · exact Keeps.refl h
    · rename_i x hx
      split
      · exact reop_keeps h _ _ hn
      · obtain ⟨hk, hc⟩ := replace_comes h hx hp hn
        have h1 := rem_keeps h (bk x.book) x.id
        exact h1.trans (enter_keeps h1.wf hk hc)
theorem sCancelAll_keeps {s : St} (h : WF s) (c : Cmd) : Keeps s (sCancelAll s c).1 := by
  unfold sCancelAll
  split
  · exact Keeps.refl h
  · exact dropT_keeps h _
end Go.Proofs.YtigpgnjgmaoejaaGreat

/- Plain mathematics: what an opening comes to (openB), and that both sides last until its volume is traded. Conditions: each side is sorted, what is open of each order is 1 or more. -/
namespace Go.Proofs.YtigpgnjgmaoejaaGreat

theorem upd_same {α : Type} (f : Nat → α) (k : Nat) : upd f k (f k) = f := by
  funext j
  by_cases h : j = k
  · subst h; rw [upd_self]
  · rw [upd_other h]

/-- What an opening at a price comes to. -/
structure Tn where
  price : Int
  vol : Int
  rest : Int

def tnAt (M : Nat → List Ord) (q : Int) : Tn :=
  if openAtO 1 q 0 (M 0) ≤ openAtO 2 q 0 (M 1) then ⟨q, openAtO 1 q 0 (M 0), openAtO 2 q 0 (M 1) - openAtO 1 q 0 (M 0)⟩
  else ⟨q, openAtO 2 q 0 (M 1), openAtO 1 q 0 (M 0) - openAtO 2 q 0 (M 1)⟩
def cmpI (a b : Int) : Int := if a < b then -1 else if b < a then 1 else 0
def orI (a b c : Int) : Int := if a ≠ 0 then a else if b ≠ 0 then b else c
def cmpT (a b : Tn) : Int := orI (cmpI b.vol a.vol) (cmpI a.rest b.rest) (cmpI a.price b.price)
/-- The first of those that come first. -/
def minT (m : Tn) : List Tn → Tn
  | [] => m
  | x :: l => minT (if cmpT x m < 0 then x else m) l
def turnsL (M : Nat → List Ord) : List Int := brks (M 0) (M 1)
def tnsL (M : Nat → List Ord) : List Tn := ((turnsL M).map (tnAt M)).filter fun x => decide (0 < x.vol)
def minL : List Tn → Tn
  | [] => ⟨0, 0, 0⟩
  | x :: l => minT x l
def openTn (M : Nat → List Ord) : Tn := minL (tnsL M)

/-- What is left of an order of which some is traded. -/
def cutO (n : Int) (a : Ord) (A : List Ord) : List Ord := if n = a.opn then A else { a with opn := a.opn - n } :: A
def minO (a b : Int) : Int := if a ≤ b then a else b
/-- The best of both sides trade at a price. -/
def tradeF (p : Int) : Nat → List Ord → List Ord → Int → List Ev → List Ord × List Ord × List Ev
  | 0, A, B, _, E => (A, B, E)
  | _ + 1, [], B, _, E => ([], B, E)
  | _ + 1, a :: A, [], _, E => (a :: A, [], E)
  | f + 1, a :: A, b :: B, v, E =>
    if 0 < v then tradeF p f (cutO (minO a.opn b.opn) a A) (cutO (minO a.opn b.opn) b B) (v - minO a.opn b.opn) (E ++ [tradedE a.id b.id p (minO a.opn b.opn)])
    else (a :: A, b :: B, E)

def openedE (p n : Int) : Ev := ⟨6, 0, 0, p, n, 0⟩
def closedE : Ev := ⟨7, 0, 0, 0, 0, 0⟩
def tradeB (M : Nat → List Ord) : List Ord × List Ord × List Ev := tradeF (openTn M).price ((M 0).length + (M 1).length) (M 0) (M 1) (openTn M).vol []
def openM (M : Nat → List Ord) : Nat → List Ord := upd (upd M 0 (tradeB M).1) 1 (tradeB M).2.1
def openE (M : Nat → List Ord) : List Ev := (tradeB M).2.2 ++ [openedE (openTn M).price (openTn M).vol]

def St.open_ (s : St) (k : Nat) : St × List Ev :=
  (⟨upd s.tr k true, upd s.td k (wrp (s.td k + (openTn (s.M k)).vol)), upd s.M k (openM (s.M k)), wrp (s.vol + (openTn (s.M k)).vol)⟩, openE (s.M k))
def sOpen (s : St) (c : Cmd) : St × List Ev :=
  if inB c.book 1 8 = false then (s, [refusedE 0 2]) else if s.tr (bk c.book) = true then (s, [refusedE 0 6]) else s.open_ (bk c.book)
def St.close_ (s : St) (k : Nat) : St × List Ev := ({ s with tr := upd s.tr k false }, [closedE])
def sClose (s : St) (c : Cmd) : St × List Ev :=
  if inB c.book 1 8 = false then (s, [refusedE 0 2]) else if s.tr (bk c.book) = false then (s, [refusedE 0 6]) else s.close_ (bk c.book)
/-- What a command comes to. -/
def sDo (s : St) (c : Cmd) : St × List Ev :=
  if c.what = 1 then sNew s c else if c.what = 2 then sCancel s c else if c.what = 3 then sChange s c else if c.what = 4 then sCancelAll s c else if c.what = 5 then sOpen s c else if c.what = 6 then sClose s c else (s, [refusedE 0 1])

def sumO (L : List Ord) : Int := (L.map Ord.opn).sum
theorem sumO_nil : sumO [] = 0 := rfl
theorem sumO_cons (x : Ord) (L : List Ord) : sumO (x :: L) = x.opn + sumO L := by simp [sumO]
theorem sumO_pos {L : List Ord} (h : ∀ y ∈ L, 1 ≤ y.opn) : 0 ≤ sumO L := by
  induction L with
  | nil => exact Int.le_refl _
  | cons x l ih =>
    have := ih fun y hy => h y (List.mem_cons_of_mem _ hy)
    have := h x List.mem_cons_self
    rw [sumO_cons]
    omega

theorem openAt_nil {sd q own : Int} {L : List Ord} (h : ∀ y ∈ L, beatsB sd q y.price = true) : openAtO sd q own L = 0 := by
  unfold openAtO
  rw [List.filter_eq_nil_iff.2]
  · rfl
  · intro y hy
    simp [h y hy]
theorem bt_nb {sd p q r : Int} (h : beatsB sd p q = true) (k : beatsB sd r q = false) : beatsB sd p r = true := by
  by_cases e : beatsB sd p r = true
  · exact e
  · have := nb_trans (by simpa using e) k
    rw [this] at h
    cases h
/-- What is to be had at a price is the front of a sorted side. -/
theorem openAt_front {sd q : Int} : ∀ {L : List Ord}, Srt sd L → (∀ y ∈ L, y.trader ≠ 0) → ∃ A B, L = A ++ B ∧ openAtO sd q 0 L = sumO A ∧ (∀ y ∈ A, beatsB sd q y.price = false) ∧ ∀ y ∈ B, beatsB sd q y.price = true
  | [], _, _ => ⟨[], [], rfl, rfl, by simp, by simp⟩
  | x :: L, h, ht => by
    obtain ⟨h1, h2⟩ := List.pairwise_cons.1 h
    cases hx : beatsB sd q x.price with
    | true =>
      have hall : ∀ y ∈ x :: L, beatsB sd q y.price = true := fun y hy => by
        rcases List.mem_cons.1 hy with rfl | hy
        · exact hx
        · exact bt_nb hx (h1 y hy)
      exact ⟨[], x :: L, rfl, openAt_nil hall, by simp, hall⟩
    | false =>
      obtain ⟨A, B, e, hs, ha, hb⟩ := openAt_front (q := q) h2 (fun y hy => ht y (List.mem_cons_of_mem _ hy))
      refine ⟨x :: A, B, by rw [e]; rfl, ?_, fun y hy => ?_, hb⟩
      · rw [sumO_cons, ← hs]
        unfold openAtO
        rw [List.filter_cons_of_pos (by simp [hx, ht x List.mem_cons_self])]
        simp
      · rcases List.mem_cons.1 hy with rfl | hy
        · exact hx
        · exact ha y hy

/-- Both sides last for a volume. -/
def Lasts (A B : List Ord) (v : Int) : Prop := ∃ A1 A2 B1 B2, A = A1 ++ A2 ∧ B = B1 ++ B2 ∧ (v = sumO A1 ∧ v ≤ sumO B1 ∨ v = sumO B1 ∧ v ≤ sumO A1)

theorem Lasts.head {A B : List Ord} {v : Int} (h : Lasts A B v) (hv : 0 < v) : ∃ a A' b B', A = a :: A' ∧ B = b :: B' := by
  obtain ⟨A1, A2, B1, B2, rfl, rfl, h⟩ := h
  have ha : A1 ≠ [] := by rintro rfl; rw [sumO_nil] at h; omega
  have hb : B1 ≠ [] := by rintro rfl; rw [sumO_nil] at h; omega
  obtain ⟨a, A', rfl⟩ := List.exists_cons_of_ne_nil ha
  obtain ⟨b, B', rfl⟩ := List.exists_cons_of_ne_nil hb
  exact ⟨a, A' ++ A2, b, B' ++ B2, rfl, rfl⟩
theorem cutO_append (n : Int) (a : Ord) (A A2 : List Ord) : cutO n a (A ++ A2) = cutO n a A ++ A2 := by
  unfold cutO
  split <;> rfl
theorem cutO_sum (n : Int) (a : Ord) (A : List Ord) : sumO (cutO n a A) = a.opn + sumO A - n := by
  unfold cutO
  split
  · omega
  · rw [sumO_cons]; simp only; omega
theorem minO_le (a b : Int) : minO a b ≤ a ∧ minO a b ≤ b ∧ (minO a b = a ∨ minO a b = b) := by
  unfold minO
  split <;> omega
theorem Lasts.step {a b : Ord} {A B : List Ord} {v : Int} (h : Lasts (a :: A) (b :: B) v) (hv : 0 < v) (hA : ∀ y ∈ a :: A, 1 ≤ y.opn) (hB : ∀ y ∈ b :: B, 1 ≤ y.opn) :
    1 ≤ minO a.opn b.opn ∧ minO a.opn b.opn ≤ v ∧ Lasts (cutO (minO a.opn b.opn) a A) (cutO (minO a.opn b.opn) b B) (v - minO a.opn b.opn) := by
  obtain ⟨A1, A2, B1, B2, ea, eb, h⟩ := h
  have ha : A1 ≠ [] := by rintro rfl; rw [sumO_nil] at h; omega
  have hb : B1 ≠ [] := by rintro rfl; rw [sumO_nil] at h; omega
  obtain ⟨a', A', rfl⟩ := List.exists_cons_of_ne_nil ha
  obtain ⟨b', B', rfl⟩ := List.exists_cons_of_ne_nil hb
  simp only [List.cons_append, List.cons.injEq] at ea eb
  obtain ⟨rfl, rfl⟩ := ea
  obtain ⟨rfl, rfl⟩ := eb
  have h1 := hA a List.mem_cons_self
  have h2 := hB b List.mem_cons_self
  have h3 : 0 ≤ sumO A' := sumO_pos fun y hy => hA y (by simp [hy])
  have h4 : 0 ≤ sumO B' := sumO_pos fun y hy => hB y (by simp [hy])
  have hm := minO_le a.opn b.opn
  rw [sumO_cons, sumO_cons] at h
  refine ⟨by omega, by omega, cutO _ a A', A2, cutO _ b B', B2, cutO_append _ _ _ _, cutO_append _ _ _ _, ?_⟩
  rw [cutO_sum, cutO_sum]
  omega

theorem minT_mem : ∀ {l : List Tn} {m : Tn}, minT m l = m ∨ minT m l ∈ l
  | [], m => .inl rfl
  | x :: l, m => by
    show minT (if cmpT x m < 0 then x else m) l = m ∨ minT (if cmpT x m < 0 then x else m) l ∈ x :: l
    split
    · rcases minT_mem (l := l) (m := x) with h | h
      · exact .inr (by rw [h]; exact List.mem_cons_self)
      · exact .inr (List.mem_cons_of_mem _ h)
    · rcases minT_mem (l := l) (m := m) with h | h
      · exact .inl h
      · exact .inr (List.mem_cons_of_mem _ h)
theorem minL_mem {l : List Tn} (h : l ≠ []) : minL l ∈ l := by
  obtain ⟨x, l', rfl⟩ := List.exists_cons_of_ne_nil h
  show minT x l' ∈ x :: l'
  rcases minT_mem (l := l') (m := x) with h | h
  · rw [h]; exact List.mem_cons_self
  · exact List.mem_cons_of_mem _ h
/-- The opening is none, or at one of the prices. -/
theorem openTn_cases (M : Nat → List Ord) : tnsL M = [] ∧ openTn M = ⟨0, 0, 0⟩ ∨ ∃ q ∈ turnsL M, openTn M = tnAt M q ∧ 0 < (tnAt M q).vol := by
  by_cases h : tnsL M = []
  · exact .inl ⟨h, by unfold openTn; rw [h]; rfl⟩
  · have hm := minL_mem h
    unfold tnsL at hm
    obtain ⟨h1, h2⟩ := List.mem_filter.1 hm
    obtain ⟨q, hq, e⟩ := List.mem_map.1 h1
    refine .inr ⟨q, hq, e.symm, ?_⟩
    rw [e]
    simpa using h2
theorem tnAt_lasts {k : Nat} {M : Nat → List Ord} (h : BkOk k M) (q : Int) : Lasts (M 0) (M 1) (tnAt M q).vol := by
  have ht : ∀ j, j < 2 → ∀ y ∈ M j, y.trader ≠ 0 := fun j hj y hy => by have := (h.ord j hj y hy).1.trader; omega
  obtain ⟨A1, A2, e1, s1, _⟩ := openAt_front (q := q) (h.srt 0 (by omega)) (ht 0 (by omega))
  obtain ⟨B1, B2, e2, s2, _⟩ := openAt_front (q := q) (h.srt 1 (by omega)) (ht 1 (by omega))
  refine ⟨A1, A2, B1, B2, e1, e2, ?_⟩
  have s1 : openAtO 1 q 0 (M 0) = sumO A1 := s1
  have s2 : openAtO 2 q 0 (M 1) = sumO B1 := s2
  unfold tnAt
  rw [s1, s2]
  split
  · exact .inl ⟨rfl, by assumption⟩
  · exact .inr ⟨rfl, by simp only; omega⟩
theorem lasts_zero (A B : List Ord) : Lasts A B 0 := ⟨[], A, [], B, rfl, rfl, .inl ⟨rfl, Int.le_refl _⟩⟩
theorem openTn_lasts {k : Nat} {M : Nat → List Ord} (h : BkOk k M) : Lasts (M 0) (M 1) (openTn M).vol := by
  rcases openTn_cases M with ⟨_, e⟩ | ⟨q, _, e, _⟩
  · rw [e]; exact lasts_zero _ _
  · rw [e]; exact tnAt_lasts h q
theorem openTn_nonneg (M : Nat → List Ord) : 0 ≤ (openTn M).vol := by
  rcases openTn_cases M with ⟨_, e⟩ | ⟨q, _, e, h⟩
  · rw [e]; exact Int.le_refl _
  · rw [e]; omega
end Go.Proofs.YtigpgnjgmaoejaaGreat

/- Plain mathematics: every command keeps all books as they should be. No condition. -/
namespace Go.Proofs.YtigpgnjgmaoejaaGreat

theorem cutO_sub {n : Int} {a : Ord} {A : List Ord} (hA : ∀ y ∈ a :: A, 1 ≤ y.opn ∧ y.opn ≤ 1000000) (hn : 0 ≤ n ∧ n ≤ a.opn) : SubL (a :: A) (cutO n a A) := by
  unfold cutO
  split
  · exact ⟨by rw [List.map_cons]; exact List.sublist_cons_self _ _, fun y hy => hA y (List.mem_cons_of_mem _ hy)⟩
  · have ha := hA a List.mem_cons_self
    refine ⟨List.Sublist.refl _, fun y hy => ?_⟩
    rcases List.mem_cons.1 hy with rfl | hy
    · simp only; omega
    · exact hA y (List.mem_cons_of_mem _ hy)
theorem tradeF_sub (p : Int) : ∀ (f : Nat) (A B : List Ord) (v : Int) (E : List Ev), (∀ y ∈ A, 1 ≤ y.opn ∧ y.opn ≤ 1000000) → (∀ y ∈ B, 1 ≤ y.opn ∧ y.opn ≤ 1000000) → SubL A (tradeF p f A B v E).1 ∧ SubL B (tradeF p f A B v E).2.1
  | 0, _, _, _, _, hA, hB => ⟨SubL.refl hA, SubL.refl hB⟩
  | _ + 1, [], _, _, _, hA, hB => ⟨SubL.refl hA, SubL.refl hB⟩
  | _ + 1, _ :: _, [], _, _, hA, hB => ⟨SubL.refl hA, SubL.refl hB⟩
  | f + 1, a :: A, b :: B, v, E, hA, hB => by
    rw [tradeF]
    split
    · have hm := minO_le a.opn b.opn
      have ha := (hA a List.mem_cons_self).1
      have hb := (hB b List.mem_cons_self).1
      have h1 := cutO_sub (n := minO a.opn b.opn) hA (by omega)
      have h2 := cutO_sub (n := minO a.opn b.opn) hB (by omega)
      have := tradeF_sub p f _ _ (v - minO a.opn b.opn) (E ++ [tradedE a.id b.id p (minO a.opn b.opn)]) h1.2 h2.2
      exact ⟨h1.trans this.1, h2.trans this.2⟩
    · exact ⟨SubL.refl hA, SubL.refl hB⟩
theorem openM_sub {k : Nat} {M : Nat → List Ord} (h : BkOk k M) : ∀ j, j < 2 → SubL (M j) (openM M j) := by
  have := tradeF_sub (openTn M).price ((M 0).length + (M 1).length) (M 0) (M 1) (openTn M).vol [] (h.opns (by omega)) (h.opns (by omega))
  intro j hj
  match j, hj with
  | 0, _ => exact this.1
  | 1, _ => exact this.2
theorem openM_ok {k : Nat} {M : Nat → List Ord} (h : BkOk k M) : BkOk k (openM M) := h.sub (openM_sub h)

theorem WF.upd_ {s : St} (h : WF s) {k : Nat} {tr' : Bool} {td' vol' : Int} {M' : Nat → List Ord} (hb : k < 8 → BkOk k M') (ht : wrp td' = td') (hv : wrp vol' = vol') : WF ⟨upd s.tr k tr', upd s.td k td', upd s.M k M', vol'⟩ := by
  refine ⟨fun i hi => ?_, fun i hi => ?_, hv⟩
  · by_cases e : i = k
    · subst e; simp only [upd_self]; exact hb hi
    · simp only [upd_other e]; exact h.book i hi
  · by_cases e : i = k
    · subst e; simp only [upd_self]; exact ht
    · simp only [upd_other e]; exact h.td i hi
theorem open_wf {s : St} (h : WF s) (k : Nat) : WF (s.open_ k).1 := h.upd_ (fun hk => openM_ok (h.book k hk)) (wrp_wrp _) (wrp_wrp _)
theorem sOpen_wf {s : St} (h : WF s) (c : Cmd) : WF (sOpen s c).1 := by
  unfold sOpen
  split
  · exact h
  · split
    · exact h
    · exact open_wf h _
theorem sClose_wf {s : St} (h : WF s) (c : Cmd) : WF (sClose s c).1 := by
  unfold sClose
  split
  · exact h
  · split
    · exact h
    · exact ⟨h.book, h.td, h.vol⟩
theorem sDo_wf {s : St} (h : WF s) (c : Cmd) : WF (sDo s c).1 := by
  unfold sDo
  split
  · exact (sNew_keeps h c).wf
  · split
    · exact (sCancel_keeps h c).wf
    · split
      · exact (sChange_keeps h c).wf
      · split
        · exact (sCancelAll_keeps h c).wf
        · split
          · exact sOpen_wf h c
          · split
            · exact sClose_wf h c
            · exact h
/-- Commands but for Open and Close. -/
theorem sDo_keeps {s : St} (h : WF s) {c : Cmd} (hc : c.what ≠ 5 ∧ c.what ≠ 6) : Keeps s (sDo s c).1 := by
  unfold sDo
  split
  · exact sNew_keeps h c
  · split
    · exact sCancel_keeps h c
    · split
      · exact sChange_keeps h c
      · split
        · exact sCancelAll_keeps h c
        · rw [if_neg hc.1, if_neg hc.2]
          exact Keeps.refl h

/-- A pit in which nothing was done. -/
def stNil : St := ⟨fun _ => false, fun _ => 0, fun _ _ => [], 0⟩
theorem nil_wf : WF stNil := ⟨fun _ _ => ⟨fun _ _ o ho => (by cases ho), fun _ _ => List.Pairwise.nil, List.nodup_nil, by simp [stNil]⟩, fun _ _ => by simp [stNil, wrp, IntKind.wrap_i64], by simp [stNil, wrp, IntKind.wrap_i64]⟩

/-- Two orders have met in book 8. -/
def cB1 : Cmd := ⟨5, 0, 0, 8, 0, 0, 0, 0⟩
def cB2 : Cmd := ⟨1, 900000001, 901, 8, 2, 1, 50, 2⟩
def cB3 : Cmd := ⟨1, 900000002, 902, 8, 1, 3, 50, 2⟩
def stB1 : St := (sDo stNil cB1).1
def stB2 : St := (sDo stB1 cB2).1
def stB : St := (sDo stB2 cB3).1
theorem stB1_wf : WF stB1 := sDo_wf nil_wf _
theorem stB2_wf : WF stB2 := sDo_wf stB1_wf _
theorem stB_wf : WF stB := sDo_wf stB2_wf _
theorem begunE1 : (sDo stNil cB1).2 = [openedE 0 0] := rfl
theorem begunE2 : (sDo stB1 cB2).2 = [takenE 900000001 2, restsE 900000001 50 2] := rfl
theorem begunE3 : (sDo stB2 cB3).2 = [takenE 900000002 2, tradedE 900000002 900000001 50 2] := rfl
theorem stB_vol : stB.vol = 2 := rfl
theorem stB_M : ∀ k, k < 8 → ∀ j, j < 2 → stB.M k j = []
  | 0, _, 0, _ | 0, _, 1, _ | 1, _, 0, _ | 1, _, 1, _ | 2, _, 0, _ | 2, _, 1, _ | 3, _, 0, _ | 3, _, 1, _ | 4, _, 0, _ | 4, _, 1, _ | 5, _, 0, _ | 5, _, 1, _ | 6, _, 0, _ | 6, _, 1, _ | 7, _, 0, _ | 7, _, 1, _ => rfl
theorem stB_tr : ∀ k, k < 7 → stB.tr k = false
  | 0, _ | 1, _ | 2, _ | 3, _ | 4, _ | 5, _ | 6, _ => rfl
theorem stB_td : ∀ k, k < 7 → stB.td k = 0
  | 0, _ | 1, _ | 2, _ | 3, _ | 4, _ | 5, _ | 6, _ => rfl
end Go.Proofs.YtigpgnjgmaoejaaGreat
