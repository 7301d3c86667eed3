/- Contract of the document's Do in books that gather. Conditions: the pit lies in memory, fewer than 100000 orders rest, no book trades, the orders' books are such, the command's What is 4 at most. -/
import Derived.Test.YtigpgnjgmaoejaaGreatRefFG
import Derived.Test.YtigpgnjgmaoejaaGreatRefK
import Derived.Test.YtigpgnjgmaoejaaGreatRefM
namespace Go.Proofs.YtigpgnjgmaoejaaGreat
open Go.RowKit

def gNew (L : List Ord) (c : Cmd) : List Ord × List Ev :=
  if newOk c = false then (L, [refusedE c.id 2])
  else match findO L c.id with
    | some _ => (L, [refusedE c.id 3])
    | none =>
      if c.kind ≠ 1 then (L, [refusedE c.id 6])
      else if 200 ≤ restN L c.book 1 + restN L c.book 2 then (L, [refusedE c.id 5])
      else (L ++ [⟨c.id, c.trader, c.book, c.side, c.price, c.count⟩], [takenE c.id c.count, restsE c.id c.price c.count])

def gAt (L : List Ord) (c : Cmd) (i : Nat) (x : Ord) : List Ord × List Ev :=
  if x.trader ≠ c.trader then (L, [refusedE c.id 4])
  else if c.what ≠ 3 then (L.eraseIdx i, [goneE x.id x.opn])
  else if c.price = x.price ∧ c.count ≤ x.opn then (L.set i { x with opn := c.count }, [restsE x.id x.price c.count])
  else (L.eraseIdx i ++ [{ x with price := c.price, opn := c.count }], [goneE x.id x.opn, takenE x.id c.count, restsE x.id c.price c.count])

def gTurn (L : List Ord) (c : Cmd) : List Ord × List Ev :=
  if turnOk c = false then (L, [refusedE c.id 2])
  else match findO L c.id with
    | none => (L, [refusedE c.id 4])
    | some i => match L[i]? with
      | none => (L, [refusedE c.id 4])
      | some x => gAt L c i x

def gDo (L : List Ord) (c : Cmd) : List Ord × List Ev :=
  if c.what = 1 then gNew L c
  else if c.what = 2 ∨ c.what = 3 then gTurn L c
  else if c.what = 4 then (if inB c.trader 1 1000 = true then cTo L c.trader 8 else (L, [refusedE 0 2]))
  else (L, [refusedE 0 1])

theorem findO_lt {L : List Ord} {id : Int} {i : Nat} (h : findO L id = some i) : i < L.length := by
  unfold findO at h
  exact (List.findIdx?_eq_some_iff_getElem.1 h).1

/-- What Do comes to. -/
def GPost (w : World) (bp : Nat) (v : Value) (s : Ref) (x : List Ord × List Ev) (e : Ending) (w' : World) : Prop :=
  ∃ r v', e = .returned r ∧ RefOut w w' bp v v' { s with L := x.1 } r x.2

theorem new_gathers (bp : Nat) (v : Value) (s : Ref) (c : Cmd) (w : World) (hr : RefAt w bp v s) (hn : s.L.length < 100000) (htr : ∀ k, k < 9 → s.tr k = false) :
    Calls Tryz.prog 58 #[.pointer (some ⟨bp, 0, none⟩), c.val] w (GPost w bp v s (gNew s.L c)) := by
  unfold gNew
  by_cases hok : newOk c = false
  · rw [if_pos hok]
    exact (comes_bad bp v s c w hr hok).mono fun e w' ⟨r, he, ho⟩ => ⟨r, v, he, ho⟩
  · have hok' : newOk c = true := by simpa using hok
    rw [if_neg hok]
    cases hf : findO s.L c.id with
    | some i => exact (comes_known bp v s c w hr (by omega) hok' i hf).mono fun e w' ⟨r, he, ho⟩ => ⟨r, v, he, ho⟩
    | none =>
      simp only
      by_cases hk : c.kind = 1
      · rw [if_neg (by simpa using hk)]
        refine (comes_rest bp v s c w hr hn hok' hf htr hk).mono fun e w' ⟨r, v', he, ho⟩ => ?_
        unfold RestPost at ho
        split
        · rw [if_pos ‹_›] at ho; exact ⟨r, v, he, ho.2⟩
        · rw [if_neg ‹_›] at ho; exact ⟨r, v', he, ho⟩
      · rw [if_pos hk]
        exact (comes_phase bp v s c w hr (by omega) hok' hf htr hk).mono fun e w' ⟨r, he, ho⟩ => ⟨r, v, he, ho⟩

theorem turns_gathers (bp : Nat) (v : Value) (s : Ref) (c : Cmd) (w : World) (hr : RefAt w bp v s) (hn : s.L.length < 100000) (htr : ∀ k, k < 9 → s.tr k = false)
    (hbk : ∀ o ∈ s.L, 1 ≤ o.book ∧ o.book ≤ 8) :
    Calls Tryz.prog 59 #[.pointer (some ⟨bp, 0, none⟩), c.val] w (GPost w bp v s (gTurn s.L c)) := by
  unfold gTurn
  by_cases hok : turnOk c = false
  · rw [if_pos hok]
    exact (turns_bad bp v s c w hr hok).mono fun e w' ⟨r, he, ho⟩ => ⟨r, v, he, ho⟩
  · have hok' : turnOk c = true := by simpa using hok
    rw [if_neg hok]
    cases hf : findO s.L c.id with
    | none => exact (turns_none bp v s c w hr (by omega) hok' (.inl hf)).mono fun e w' ⟨r, he, ho⟩ => ⟨r, v, he, ho⟩
    | some i =>
      have hi := findO_lt hf
      simp only [List.getElem?_eq_getElem hi]
      unfold gAt
      by_cases ht : s.L[i].trader = c.trader
      · rw [if_neg (by simpa using ht)]
        by_cases hw : c.what = 3
        · rw [if_neg (by simpa using hw)]
          by_cases hp : c.price = s.L[i].price ∧ c.count ≤ s.L[i].opn
          · rw [if_pos hp]
            exact (turns_shrink bp v s c w hr (by omega) hok' i hi hf ht hw hp.1 hp.2).mono fun e w' ⟨r, he, ho⟩ => ⟨r, v, he, ho⟩
          · rw [if_neg hp]
            have hb := hbk _ (List.getElem_mem hi)
            obtain ⟨nb, hnb⟩ := Int.eq_ofNat_of_zero_le (by omega : 0 ≤ s.L[i].book)
            exact turns_anew bp v s c w hr (by omega) hok' i hi hf ht hw hp nb hnb (by omega) (by omega) (htr nb (by omega))
        · rw [if_pos hw]
          exact turns_cancel bp v s c w hr (by omega) hok' i hi hf ht hw
      · rw [if_pos ht]
        exact (turns_none bp v s c w hr (by omega) hok' (.inr ⟨i, hi, hf, ht⟩)).mono fun e w' ⟨r, he, ho⟩ => ⟨r, v, he, ho⟩

/-- Behind a box of the command. -/
theorem GPost.after {w w1 : World} {bp : Nat} {v : Value} {s : Ref} {x : List Ord × List Ev} {e : Ending} {w' : World} (hf : Fr No w w1) (h : GPost w1 bp v s x e w') : GPost w bp v s x e w' :=
  let ⟨r, v', he, ho⟩ := h
  ⟨r, v', he, RefOut.after hf ho⟩

set_option maxRecDepth 100000 in
set_option maxHeartbeats 4000000 in
theorem do_gathers (bp : Nat) (v : Value) (s : Ref) (c : Cmd) (w : World) (hr : RefAt w bp v s) (hn : s.L.length < 100000) (htr : ∀ k, k < 9 → s.tr k = false)
    (hbk : ∀ o ∈ s.L, 1 ≤ o.book ∧ o.book ≤ 8) (hwh : c.what ≤ 4) :
    Calls Tryz.prog 31 #[.pointer (some ⟨bp, 0, none⟩), c.val] w (GPost w bp v s (gDo s.L c)) := by
  have HR := hide hr
  have HT := hide htr
  have HB := hide hbk
  clear hr htr hbk
  have hal : ∀ (w : World) (o : Obj), Fr No w (w.alloc o) := fun w o => (Fr.refl _ _).alloc _
  by_cases h1 : c.what = 1
  · have hg : gDo s.L c = gNew s.L c := by unfold gDo; rw [if_pos h1]
    rw [hg]
    generalize hX : gNew s.L c = X at *
    have HX := hide hX
    obtain ⟨cw, cid, ct, cb, cs, ck, cp, cc⟩ := c
    simp only at h1
    subst h1
    unfold Cmd.val
    simp only
    clear hX hg hal
    go_enter Tryz.func31, Tryz.ntmps31
    go_wp2_with (first
      | (go_at_call 57; refine (in_any _ _ _ _).mono ?_; rintro e w1 ⟨rfl, rfl⟩)
      | (go_at_call 58; refine (new_gathers bp v s ⟨1, cid, ct, cb, cs, ck, cp, cc⟩ _ ((unhide HR).no ((Fr.refl _ _).alloc _)) hn (unhide HT)).mono ?_; rintro e w1 ⟨r, v1, rfl, ho⟩))
    go_ret
    exact ⟨_, v1, rfl, RefOut.after ((Fr.refl _ _).alloc _) (by rw [unhide HX] at ho; exact ho)⟩
  · by_cases h2 : c.what = 2 ∨ c.what = 3
    · have hg : gDo s.L c = gTurn s.L c := by unfold gDo; rw [if_neg h1, if_pos h2]
      rw [hg]
      generalize hX : gTurn s.L c = X at *
      have HX := hide hX
      obtain ⟨cw, cid, ct, cb, cs, ck, cp, cc⟩ := c
      simp only at h1 h2
      unfold Cmd.val
      simp only
      clear hX hg hal h1
      rcases h2 with rfl | rfl
      all_goals
        go_enter Tryz.func31, Tryz.ntmps31
        go_wp2_with (first
          | (go_at_call 57; refine (in_any _ _ _ _).mono ?_; rintro e w1 ⟨rfl, rfl⟩)
          | (go_at_call 59; refine (turns_gathers bp v s ⟨_, cid, ct, cb, cs, ck, cp, cc⟩ _ ((unhide HR).no ((Fr.refl _ _).alloc _)) hn (unhide HT) (unhide HB)).mono ?_; rintro e w1 ⟨r, v1, rfl, ho⟩))
        go_ret
        exact ⟨_, v1, rfl, RefOut.after ((Fr.refl _ _).alloc _) (by rw [unhide HX] at ho; exact ho)⟩
    · by_cases h4 : c.what = 4
      · by_cases ht : inB c.trader 1 1000 = true
        · have hg : gDo s.L c = cTo s.L c.trader 8 := by unfold gDo; rw [if_neg h1, if_neg h2, if_pos h4, if_pos ht]
          rw [hg]
          generalize hX : cTo s.L c.trader 8 = X at *
          have HX := hide hX
          obtain ⟨cw, cid, ct, cb, cs, ck, cp, cc⟩ := c
          simp only at h4 ht
          subst h4
          unfold Cmd.val
          simp only
          clear hX hg hal h1 h2
          go_enter Tryz.func31, Tryz.ntmps31
          go_wp2_with (first
            | (go_at_call 57; refine (in_any _ _ _ _).mono ?_; rintro e w1 ⟨rfl, rfl⟩)
            | (go_at_call 61; refine (cancels_any bp v s _ _ ((unhide HR).no ((Fr.refl _ _).alloc _)) (by omega)).mono ?_; rintro e w1 ⟨r, v1, rfl, ho⟩))
          go_ret
          exact ⟨_, v1, rfl, RefOut.after ((Fr.refl _ _).alloc _) (by rw [unhide HX] at ho; exact ho)⟩
        · have ht' : inB c.trader 1 1000 = false := by simpa using ht
          have hg : gDo s.L c = (s.L, [refusedE 0 2]) := by unfold gDo; rw [if_neg h1, if_neg h2, if_pos h4, if_neg ht]
          rw [hg]
          obtain ⟨cw, cid, ct, cb, cs, ck, cp, cc⟩ := c
          simp only at h4 ht'
          subst h4
          unfold Cmd.val
          simp only
          clear hg hal h1 h2 ht
          go_enter Tryz.func31, Tryz.ntmps31
          go_wp2_with (first
            | (go_at_call 57; refine (in_any _ _ _ _).mono ?_; rintro e w1 ⟨rfl, rfl⟩)
            | (go_at_call 60; refine (refused_any _ _ _).mono ?_; rintro e w1 ⟨r, rfl, he, hf⟩))
          go_ret
          exact ⟨_, v, rfl, RefOut.said (unhide HR) (own_base he (fun g hg => by have := (he.lt g hg).1; simp at this; omega)) (((Fr.refl _ _).alloc _).quiet hf)⟩
      · have hg : gDo s.L c = (s.L, [refusedE 0 1]) := by unfold gDo; rw [if_neg h1, if_neg h2, if_neg h4]
        rw [hg]
        obtain ⟨cw, cid, ct, cb, cs, ck, cp, cc⟩ := c
        simp only at h1 h2 h4 hwh
        have hc1 : (cw == 1) = false := by simpa using h1
        have hc2 : (cw == 2) = false := by simp; omega
        have hc3 : (cw == 3) = false := by simp; omega
        have hc4 : (cw == 4) = false := by simpa using h4
        have hc5 : (cw == 5) = false := by simp; omega
        have hc6 : (cw == 6) = false := by simp; omega
        unfold Cmd.val
        simp only
        clear hg hal h1 h2 h4
        go_enter Tryz.func31, Tryz.ntmps31
        go_wp2_with (first
          | (go_at_call 57; refine (in_any _ _ _ _).mono ?_; rintro e w1 ⟨rfl, rfl⟩)
          | (go_at_call 60; refine (refused_any _ _ _).mono ?_; rintro e w1 ⟨r, rfl, he, hf⟩))
        go_ret
        exact ⟨_, v, rfl, RefOut.said (unhide HR) (own_base he (fun g hg => by have := (he.lt g hg).1; simp at this; omega)) (((Fr.refl _ _).alloc _).quiet hf)⟩
end Go.Proofs.YtigpgnjgmaoejaaGreat
