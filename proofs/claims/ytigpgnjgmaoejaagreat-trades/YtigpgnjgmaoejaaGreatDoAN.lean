/- Contract of the document's Do in books that gather. Conditions: the pit lies in memory, fewer than 100000 orders rest, no book trades, the orders' books are such, the command's What is 4 at most. -/
import Derived.Test.YtigpgnjgmaoejaaGreatRefFG
import Derived.Test.YtigpgnjgmaoejaaGreatRefHK
import Derived.Test.YtigpgnjgmaoejaaGreatRefLM
import Derived.Test.YtigpgnjgmaoejaaGreatPitAB
import Derived.Test.YtigpgnjgmaoejaaGreatPitC
import Derived.Deep.RegionHeld3
namespace Go.Proofs.YtigpgnjgmaoejaaGreat
open Go.RowKit

def gNew (L : List Ord) (c : Cmd) : List Ord × List Ev :=
  if newOk c = false then (L, [refusedE c.id 2])
  else match findO L c.id with
    | some _ => (L, [refusedE c.id 3])
    | none =>
      if c.kind ≠ 1 then (L, [refusedE c.id 6])
      else if 200 ≤ restN L c.book 1 + restN L c.book 2 then (L, [refusedE c.id 5])
      else (L ++ [⟨c.id, c.trader, c.book, c.side, c.price, c.count⟩], [takenE c.id c.count, restsE c.id c.price c.count])

def gAt (L : List Ord) (c : Cmd) (i : Nat) (x : Ord) : List Ord × List Ev :=
  if x.trader ≠ c.trader then (L, [refusedE c.id 4])
  else if c.what ≠ 3 then (L.eraseIdx i, [goneE x.id x.opn])
  else if c.price = x.price ∧ c.count ≤ x.opn then (L.set i { x with opn := c.count }, [restsE x.id x.price c.count])
  else (L.eraseIdx i ++ [{ x with price := c.price, opn := c.count }], [goneE x.id x.opn, takenE x.id c.count, restsE x.id c.price c.count])

def gTurn (L : List Ord) (c : Cmd) : List Ord × List Ev :=
  if turnOk c = false then (L, [refusedE c.id 2])
  else match findO L c.id with
    | none => (L, [refusedE c.id 4])
    | some i => match L[i]? with
      | none => (L, [refusedE c.id 4])
      | some x => gAt L c i x

def gDo (L : List Ord) (c : Cmd) : List Ord × List Ev :=
  if c.what = 1 then gNew L c
  else if c.what = 2 ∨ c.what = 3 then gTurn L c
  else if c.what = 4 then (if inB c.trader 1 1000 = true then cTo L c.trader 8 else (L, [refusedE 0 2]))
  else (L, [refusedE 0 1])

theorem findO_lt {L : List Ord} {id : Int} {i : Nat} (h : findO L id = some i) : i < L.length := by
  unfold findO at h
  exact (List.findIdx?_eq_some_iff_getElem.1 h).1

/-- What Do comes to. -/
def GPost (w : World) (bp : Nat) (v : Value) (s : Ref) (x : List Ord × List Ev) (e : Ending) (w' : World) : Prop :=
  ∃ r v', e = .returned r ∧ RefOut w w' bp v v' { s with L := x.1 } r x.2

theorem new_gathers (bp : Nat) (v : Value) (s : Ref) (c : Cmd) (w : World) (hr : RefAt w bp v s) (hn : s.L.length < 100000) (htr : ∀ k, k < 9 → s.tr k = false) :
    Calls Tryz.prog 58 #[.pointer (some ⟨bp, 0, none⟩), c.val] w (GPost w bp v s (gNew s.L c)) := by
  unfold gNew
  by_cases hok : newOk c = false
  · rw [if_pos hok]
    exact (comes_bad bp v s c w hr hok).mono fun e w' ⟨r, he, ho⟩ => ⟨r, v, he, ho⟩
  · have hok' : newOk c = true := by simpa using hok
    rw [if_neg hok]
    cases hf : findO s.L c.id with
    | some i => exact (comes_known bp v s c w hr (by omega) hok' i hf).mono fun e w' ⟨r, he, ho⟩ => ⟨r, v, he, ho⟩
    | none =>
      simp only
      by_cases hk : c.kind = 1
      · rw [if_neg (by simpa using hk)]
        refine (comes_rest bp v s c w hr hn hok' hf htr hk).mono fun e w' ⟨r, v', he, ho⟩ => ?_
        unfold RestPost at ho
        split
        · rw [if_pos ‹_›] at ho; exact ⟨r, v, he, ho.2⟩
        · rw [if_neg ‹_›] at ho; exact ⟨r, v', he, ho⟩
      · rw [if_pos hk]
        exact (comes_phase bp v s c w hr (by omega) hok' hf htr hk).mono fun e w' ⟨r, he, ho⟩ => ⟨r, v, he, ho⟩

theorem turns_gathers (bp : Nat) (v : Value) (s : Ref) (c : Cmd) (w : World) (hr : RefAt w bp v s) (hn : s.L.length < 100000) (htr : ∀ k, k < 9 → s.tr k = false)
    (hbk : ∀ o ∈ s.L, 1 ≤ o.book ∧ o.book ≤ 8) :
    Calls Tryz.prog 59 #[.pointer (some ⟨bp, 0, none⟩), c.val] w (GPost w bp v s (gTurn s.L c)) := by
  unfold gTurn
  by_cases hok : turnOk c = false
  · rw [if_pos hok]
    exact (turns_bad bp v s c w hr hok).mono fun e w' ⟨r, he, ho⟩ => ⟨r, v, he, ho⟩
  · have hok' : turnOk c = true := by simpa using hok
    rw [if_neg hok]
    cases hf : findO s.L c.id with
    | none => exact (turns_none bp v s c w hr (by omega) hok' (.inl hf)).mono fun e w' ⟨r, he, ho⟩ => ⟨r, v, he, ho⟩
    | some i =>
      have hi := findO_lt hf
      simp only [List.getElem?_eq_getElem hi]
      unfold gAt
      by_cases ht : s.L[i].trader = c.trader
      · rw [if_neg (by simpa using ht)]
        by_cases hw : c.what = 3
        · rw [if_neg (by simpa using hw)]
          by_cases hp : c.price = s.L[i].price ∧ c.count ≤ s.L[i].opn
          · rw [if_pos hp]
            exact (turns_shrink bp v s c w hr (by omega) hok' i hi hf ht hw hp.1 hp.2).mono fun e w' ⟨r, he, ho⟩ => ⟨r, v, he, ho⟩
          · rw [if_neg hp]
            have hb := hbk _ (List.getElem_mem hi)
            obtain ⟨nb, hnb⟩ := Int.eq_ofNat_of_zero_le (by omega : 0 ≤ s.L[i].book)
            exact turns_anew bp v s c w hr (by omega) hok' i hi hf ht hw hp nb hnb (by omega) (by omega) (htr nb (by omega))
        · rw [if_pos hw]
          exact turns_cancel bp v s c w hr (by omega) hok' i hi hf ht hw
      · rw [if_pos ht]
        exact (turns_none bp v s c w hr (by omega) hok' (.inr ⟨i, hi, hf, ht⟩)).mono fun e w' ⟨r, he, ho⟩ => ⟨r, v, he, ho⟩

/-- Behind a box of the command. -/
theorem GPost.after {w w1 : World} {bp : Nat} {v : Value} {s : Ref} {x : List Ord × List Ev} {e : Ending} {w' : World} (hf : Fr No w w1) (h : GPost w1 bp v s x e w') : GPost w bp v s x e w' :=
  let ⟨r, v', he, ho⟩ := h
  ⟨r, v', he, RefOut.after hf ho⟩

set_option maxRecDepth 100000 in
set_option maxHeartbeats 4000000 in
theorem do_gathers (bp : Nat) (v : Value) (s : Ref) (c : Cmd) (w : World) (hr : RefAt w bp v s) (hn : s.L.length < 100000) (htr : ∀ k, k < 9 → s.tr k = false)
    (hbk : ∀ o ∈ s.L, 1 ≤ o.book ∧ o.book ≤ 8) (hwh : c.what ≤ 4) :
    Calls Tryz.prog 31 #[.pointer (some ⟨bp, 0, none⟩), c.val] w (GPost w bp v s (gDo s.L c)) := by
  have HR := hide hr
  have HT := hide htr
  have HB := hide hbk
  clear hr htr hbk
  have hal : ∀ (w : World) (o : Obj), Fr No w (w.alloc o) := fun w o => (Fr.refl _ _).alloc _
  by_cases h1 : c.what = 1
  · have hg : gDo s.L c = gNew s.L c := by unfold gDo; rw [if_pos h1]
    rw [hg]
    generalize hX : gNew s.L c = X at *
    have HX := hide hX
    obtain ⟨cw, cid, ct, cb, cs, ck, cp, cc⟩ := c
    simp only at h1
    subst h1
    unfold Cmd.val
    simp only
    clear hX hg hal
    go_enter Tryz.func31, Tryz.ntmps31
    go_wp2_with (first
      | (go_at_call 57; refine (in_any _ _ _ _).mono ?_; rintro e w1 ⟨rfl, rfl⟩)
      | (go_at_call 58; refine (new_gathers bp v s ⟨1, cid, ct, cb, cs, ck, cp, cc⟩ _ ((unhide HR).no ((Fr.refl _ _).alloc _)) hn (unhide HT)).mono ?_; rintro e w1 ⟨r, v1, rfl, ho⟩))
    go_ret
    exact ⟨_, v1, rfl, RefOut.after ((Fr.refl _ _).alloc _) (by rw [unhide HX] at ho; exact ho)⟩
  · by_cases h2 : c.what = 2 ∨ c.what = 3
    · have hg : gDo s.L c = gTurn s.L c := by unfold gDo; rw [if_neg h1, if_pos h2]
      rw [hg]
      generalize hX : gTurn s.L c = X at *
      have HX := hide hX
      obtain ⟨cw, cid, ct, cb, cs, ck, cp, cc⟩ := c
      simp only at h1 h2
      unfold Cmd.val
      simp only
      clear hX hg hal h1
      rcases h2 with rfl | rfl
      all_goals
        go_enter Tryz.func31, Tryz.ntmps31
        go_wp2_with (first
          | (go_at_call 57; refine (in_any _ _ _ _).mono ?_; rintro e w1 ⟨rfl, rfl⟩)
          | (go_at_call 59; refine (turns_gathers bp v s ⟨_, cid, ct, cb, cs, ck, cp, cc⟩ _ ((unhide HR).no ((Fr.refl _ _).alloc _)) hn (unhide HT) (unhide HB)).mono ?_; rintro e w1 ⟨r, v1, rfl, ho⟩))
        go_ret
        exact ⟨_, v1, rfl, RefOut.after ((Fr.refl _ _).alloc _) (by rw [unhide HX] at ho; exact ho)⟩
    · by_cases h4 : c.what = 4
      · by_cases ht : inB c.trader 1 1000 = true
        · have hg : gDo s.L c = cTo s.L c.trader 8 := by unfold gDo; rw [if_neg h1, if_neg h2, if_pos h4, if_pos ht]
          rw [hg]
          generalize hX : cTo s.L c.trader 8 = X at *
          have HX := hide hX
          obtain ⟨cw, cid, ct, cb, cs, ck, cp, cc⟩ := c
          simp only at h4 ht
          subst h4
          unfold Cmd.val
          simp only
          clear hX hg hal h1 h2
          go_enter Tryz.func31, Tryz.ntmps31
          go_wp2_with (first
            | (go_at_call 57; refine (in_any _ _ _ _).mono ?_; rintro e w1 ⟨rfl, rfl⟩)
            | (go_at_call 61; refine (cancels_any bp v s _ _ ((unhide HR).no ((Fr.refl _ _).alloc _)) (by omega)).mono ?_; rintro e w1 ⟨r, v1, rfl, ho⟩))
          go_ret
          exact ⟨_, v1, rfl, RefOut.after ((Fr.refl _ _).alloc _) (by rw [unhide HX] at ho; exact ho)⟩
        · have ht' : inB c.trader 1 1000 = false := by simpa using ht
          have hg : gDo s.L c = (s.L, [refusedE 0 2]) := by unfold gDo; rw [if_neg h1, if_neg h2, if_pos h4, if_neg ht]
          rw [hg]
          obtain ⟨cw, cid, ct, cb, cs, ck, cp, cc⟩ := c
          simp only at h4 ht'
          subst h4
          unfold Cmd.val
          simp only
          clear hg hal h1 h2 ht
          go_enter Tryz.func31, Tryz.ntmps31
          go_wp2_with (first
            | (go_at_call 57; refine (in_any _ _ _ _).mono ?_; rintro e w1 ⟨rfl, rfl⟩)
            | (go_at_call 60; refine (refused_any _ _ _).mono ?_; rintro e w1 ⟨r, rfl, he, hf⟩))
          go_ret
          exact ⟨_, v, rfl, RefOut.said (unhide HR) (own_base he (fun g hg => by have := (he.lt g hg).1; simp at this; omega)) (((Fr.refl _ _).alloc _).quiet hf)⟩
      · have hg : gDo s.L c = (s.L, [refusedE 0 1]) := by unfold gDo; rw [if_neg h1, if_neg h2, if_neg h4]
        rw [hg]
        obtain ⟨cw, cid, ct, cb, cs, ck, cp, cc⟩ := c
        simp only at h1 h2 h4 hwh
        have hc1 : (cw == 1) = false := by simpa using h1
        have hc2 : (cw == 2) = false := by simp; omega
        have hc3 : (cw == 3) = false := by simp; omega
        have hc4 : (cw == 4) = false := by simpa using h4
        have hc5 : (cw == 5) = false := by simp; omega
        have hc6 : (cw == 6) = false := by simp; omega
        unfold Cmd.val
        simp only
        clear hg hal h1 h2 h4
        go_enter Tryz.func31, Tryz.ntmps31
        go_wp2_with (first
          | (go_at_call 57; refine (in_any _ _ _ _).mono ?_; rintro e w1 ⟨rfl, rfl⟩)
          | (go_at_call 60; refine (refused_any _ _ _).mono ?_; rintro e w1 ⟨r, rfl, he, hf⟩))
        go_ret
        exact ⟨_, v, rfl, RefOut.said (unhide HR) (own_base he (fun g hg => by have := (he.lt g hg).1; simp at this; omega)) (((Fr.refl _ _).alloc _).quiet hf)⟩
end Go.Proofs.YtigpgnjgmaoejaaGreat

/- What a command comes to (CmdPost); a desk's command New. Conditions: the pit lies in memory and is as it should be. -/
namespace Go.Proofs.YtigpgnjgmaoejaaGreat
open Go.RowKit

/-- What a command comes to: the pit then, and the events. -/
structure CmdTo (w w' : World) (bx : Nat) (bb : Nat → Nat) (v v' : Nat → Nat → Value) (ro' : Nat → Nat) (s' : St) (E : List Ev) (r : Value) : Prop where
  to : PitTo w w' bx bb v v' ro' s'
  evs : Es w' w.heap.size r E
  own : ∀ g, OwnS r g → ¬ PS bx bb v' g
def CmdPost (w : World) (bx : Nat) (bb : Nat → Nat) (v : Nat → Nat → Value) (x : St × List Ev) (e : Ending) (w' : World) : Prop :=
  ∃ r v' ro', e = .returned r ∧ CmdTo w w' bx bb v v' ro' x.1 x.2 r

theorem CmdPost.said {w w' : World} {bx : Nat} {bb : Nat → Nat} {v : Nat → Nat → Value} {ro : Nat → Nat} {s : St} {r : Value} {E : List Ev} (h : PitAt w bx bb v ro s) (hf : Fr No w w') (he : Es w' w.heap.size r E) : CmdPost w bx bb v (s, E) (.returned r) w' :=
  ⟨r, v, ro, rfl, PitTo.refl h hf, he, fun g hg hp => by have := (he.lt g hg).1; have := h.lt g hp; omega⟩
theorem es_more {w w1 w' : World} {r : Value} {E : List Ev} (hf : Fr No w w1) (he : Es w' w1.heap.size r E) : Es w' w.heap.size r E := own_base he fun g hg => Nat.le_trans hf.size (he.lt g hg).1
theorem CmdPost.after {w w1 : World} {bx : Nat} {bb : Nat → Nat} {v : Nat → Nat → Value} {x : St × List Ev} {e : Ending} {w' : World} (hf : Fr No w w1) (hc : CmdPost w1 bx bb v x e w') : CmdPost w bx bb v x e w' := by
  obtain ⟨r, v', ro', he, ⟨h1, h4, h5⟩⟩ := hc
  exact ⟨r, v', ro', he, h1.after hf, es_more hf h4, h5⟩
/-- An order has come in. -/
theorem PitAt.entered {w w' : World} {bx : Nat} {bb : Nat → Nat} {v : Nat → Nat → Value} {ro : Nat → Nat} {s : St} (h : PitAt w bx bb v ro s) {k : Nat} (hk : k < 8) {x : Ord} {kind : Int} {e : Ending}
    (hb : EnterPost w (bb k) bx (s.tr k) (s.td k) (v k) (pitCells bb s.vol) s.vol (enterB (s.tr k) (s.M k) x kind) e w') : CmdPost w bx bb v (s.enter k x kind) e w' := by
  obtain ⟨r, v', he, hm⟩ := hb
  obtain ⟨ro', ht⟩ := h.met hk hm
  refine ⟨r, _, ro', he, ht, hm.evs, fun g hg hp => ?_⟩
  have hge := (hm.evs.lt g hg).1
  rcases hp with hp | ⟨i, hi, hp⟩
  · have := h.lt g (.inl hp); omega
  · by_cases hik : i = k
    · subst hik
      rw [upd_self] at hp
      exact hm.el g hg hp
    · rw [upd_other hik] at hp
      have := h.lt g (.inr ⟨i, hi, hp⟩)
      omega
theorem BkOk.len {k : Nat} {M : Nat → List Ord} (h : BkOk k M) {j : Nat} (hj : j < 2) : (M j).length ≤ 200 := by
  have := h.cap
  match j, hj with
  | 0, _ => omega
  | 1, _ => omega
/-- Enter, for the pit. -/
theorem pEnter_any (bx : Nat) (bb : Nat → Nat) (v : Nat → Nat → Value) (ro : Nat → Nat) (s : St) (k : Nat) (hk : k < 8) (x : Ord) (kind : Int) (hs : x.side = 1 ∨ x.side = 2) (ho : 1 ≤ x.opn ∧ x.opn ≤ 1000000) (w : World) (h : PitAt w bx bb v ro s) (hw : WF s) :
    Calls Tryz.prog 92 #[.pointer (some ⟨bb k, 0, none⟩), x.val, .int .i64 kind] w (CmdPost w bx bb v (s.enter k x kind)) :=
  (bEnter_any (bb k) bx (s.tr k) (s.td k) (v k) (s.M k) (pitCells bb s.vol) s.vol x kind hs ho (fun j hj => (hw.book k hk).opns hj) (fun j hj => by have := (hw.book k hk).len hj; omega) (hw.td k hk) hw.vol w (h.px hk)).mono fun _ _ hb => h.entered hk hb
/-- A block that none of the pit's is stays as it was. -/
theorem CmdPost.keep {w w' : World} {bx : Nat} {bb : Nat → Nat} {v : Nat → Nat → Value} {x : St × List Ev} {e : Ending} (h : CmdPost w bx bb v x e w') {Q : Nat} {o : Obj} (hq : w.heap[Q]? = some o) (hn : ¬ PS bx bb v Q) : w'.heap[Q]? = some o := by
  obtain ⟨r, v', ro', he, hc⟩ := h
  exact hc.to.fr.heap hq hn

/-- A command's box, and all as it was. -/
structure Boxed (w w1 : World) (N : Nat) (c : Cmd) : Prop where
  fr : Fr No w w1
  box : w1.heap[N]? = some (.cells #[.int .i64 c.what, .int .i64 c.id, .int .i64 c.trader, .int .i64 c.book, .int .i64 c.side, .int .i64 c.kind, .int .i64 c.price, .int .i64 c.count] 31 (0, 0))
theorem Boxed.no {w w1 w2 : World} {N : Nat} {c : Cmd} (h : Boxed w w1 N c) (hf : Fr No w1 w2) : Boxed w w2 N c := ⟨h.fr.quiet hf, hf.heap h.box id⟩
theorem Boxed.lt {w w1 : World} {N : Nat} {c : Cmd} (h : Boxed w w1 N c) : N < w1.heap.size := lt_of_heap h.box
theorem newAt {w W : World} {c : Cmd} {ob : Obj} (hW : World.alloc w ob = W) (ho : ob = .cells #[.int .i64 c.what, .int .i64 c.id, .int .i64 c.trader, .int .i64 c.book, .int .i64 c.side, .int .i64 c.kind, .int .i64 c.price, .int .i64 c.count] 31 (0, 0)) : Boxed w W w.heap.size c := by
  subst hW ho
  exact ⟨(Fr.refl _ _).alloc _, heap_alloc_new w _⟩

set_option maxHeartbeats 8000000 in
set_option maxRecDepth 20000 in
theorem dEnter_any (bx : Nat) (bb : Nat → Nat) (v : Nat → Nat → Value) (ro : Nat → Nat) (s : St) (c : Cmd) (w : World) (h : PitAt w bx bb v ro s) (hg : WF s) :
    Calls Tryz.prog 44 #[.pointer (some ⟨bx, 0, none⟩), c.val] w (CmdPost w bx bb v (sNew s c)) := by
  have HP := hide h
  have HG := hide hg
  clear h hg
  obtain ⟨X, hX⟩ : ∃ X, X = sNew s c := ⟨_, rfl⟩
  rw [← hX]
  have HX := hide hX
  clear hX
  unfold Cmd.val
  go_enter Tryz.func44, Tryz.ntmps44
  go_wp2_with fail
  generalize hW : World.alloc w _ = W0
  have hB0 : Boxed w W0 w.heap.size c := newAt hW rfl
  generalize hN : w.heap.size = N at *
  have HN := hide hN
  clear hW hN
  refine (newNumbers_any c W0).mono ?_
  rintro e w1 ⟨rfl, hf1⟩
  have hB1 := hB0.no hf1
  have hN1 := hB1.lt
  obtain ⟨y0, y1, y2, y3, y4, y5, y6, y7, _⟩ := box8 hB1.box
  have HB1 := hide hB1
  clear hB0 hf1 hB1
  cases hok : newOk c with
  | false =>
    have HE : Hid (X = (s, [refusedE c.id 2])) := by show _ = _; rw [unhide HX]; simp [sNew, hok]
    clear hok
    go_wp2_with (go_at_call 50; refine (pRefused_any _ _ _).mono ?_; rintro e w2 ⟨r2, rfl, he2, hf2⟩)
    go_ret
    rw [unhide HE]
    exact CmdPost.said (unhide HP) ((unhide HB1).fr.quiet hf2) (es_more (unhide HB1).fr he2)
  | true =>
    obtain ⟨o1, o2, o3, o4, o5, o6, o7⟩ := newOk_all hok
    have HOK := hide hok
    have HO := hide (And.intro o3 (And.intro o4 o7))
    clear hok o1 o2 o3 o4 o5 o6 o7
    go_wp2_with fail
    refine (dResting_any bx bb v ro s c.id w1 ((unhide HP).no (unhide HB1).fr)).mono ?_
    rintro e w2 ⟨rfl, hf2⟩
    have hB2 := (unhide HB1).no hf2
    have hN2 := hB2.lt
    obtain ⟨z0, z1, z2, z3, z4, z5, z6, z7, _⟩ := box8 hB2.box
    have HB2 := hide hB2
    clear hB2 hf2 y0 y1 y2 y3 y4 y5 y6 y7
    cases hro : getAt s c.id with
    | some x =>
      have HE : Hid (X = (s, [refusedE c.id 3])) := by
        show _ = _
        rw [unhide HX]
        simp [sNew, unhide HOK, hro]
      clear hro
      rw [show ordR (some x) = .tuple #[.agg #[.int .i64 x.id, .int .i64 x.trader, .int .i64 x.book, .int .i64 x.side, .int .i64 x.price, .int .i64 x.opn], .bool true] from rfl]
      go_wp2_with (go_at_call 50; refine (pRefused_any _ _ _).mono ?_; rintro e w3 ⟨r3, rfl, he3, hf3⟩)
      go_ret
      rw [unhide HE]
      have hfa := (unhide HB2).fr.alloc (.cells #[.int .i64 x.id, .int .i64 x.trader, .int .i64 x.book, .int .i64 x.side, .int .i64 x.price, .int .i64 x.opn] 95)
      exact CmdPost.said (unhide HP) (hfa.quiet hf3) (es_more hfa he3)
    | none =>
      have HFN := hide hro
      clear hro
      rw [show ordR none = .tuple #[.agg #[.int .i64 0, .int .i64 0, .int .i64 0, .int .i64 0, .int .i64 0, .int .i64 0], .bool false] from rfl]
      go_wp2
      generalize hW3 : World.alloc (World.alloc w2 _) _ = W3
      have hf3 : Fr No w2 W3 := by rw [← hW3]; exact ((Fr.refl _ _).alloc _).alloc _
      have hq3 : W3.heap[w2.heap.size + 1]? = some (.cells #[.int .i64 c.id, .int .i64 c.trader, .int .i64 c.book, .int .i64 c.side, .int .i64 c.price, .int .i64 c.count] 95 (0, 0)) := by rw [← hW3]; exact heap_newAt _ _ (by simp)
      generalize hQ : w2.heap.size + 1 = Q at *
      have hB3 := (unhide HB2).no hf3
      have hN3 := hB3.lt
      have hQ3 := lt_of_heap hq3
      have hQw : N < Q := by omega
      clear hW3 hf3 hQ z0 z1 z2 z3 z4 z5 z6 z7
      obtain ⟨z0, z1, z2, z3, z4, z5, z6, z7, _⟩ := box8 hB3.box
      obtain ⟨q0, q1, q2, q3, q4, q5, _⟩ := box6 hq3
      have HB3 := hide (And.intro hB3 hq3)
      obtain ⟨h1, h8⟩ := (unhide HO).1
      obtain ⟨k, hk⟩ := Int.eq_ofNat_of_zero_le (by omega : 0 ≤ c.book - 1)
      have hbk : c.book = (k : Int) + 1 := by omega
      have hk8 : k < 8 := by omega
      have hke : bk c.book = k := by unfold bk; omega
      have HK := hide (And.intro hbk hke)
      generalize hBG : barsB (s.tr k) (s.M k) (ordOf c) c.kind = B at *
      have HGB : Hid ((B ≠ 0 → X = (s, [refusedE c.id B])) ∧ (B = 0 → X = s.enter k (ordOf c) c.kind)) := by
        have e : X = if B ≠ 0 then (s, [refusedE c.id B]) else s.enter k (ordOf c) c.kind := by
          rw [unhide HX]
          unfold sNew
          rw [if_neg (by rw [unhide HOK]; decide), if_neg (by rw [unhide HFN]; decide), hke, hBG]
        exact ⟨fun h => by rw [e, if_pos h], fun h => by rw [e, if_neg (by simpa using h)]⟩
      have HBG : Hid (barsB (s.tr k) (s.M k) ⟨c.id, c.trader, c.book, c.side, c.price, c.count⟩ c.kind = B) := hBG
      have HPB : Hid (∀ w', Fr No w w' → PB w' (bb k) bx (s.tr k) (s.td k) (v k) (s.M k)) := fun w' hf => ((unhide HP).book k hk8).no hf
      have hop := fun j (hj : j < 2) => ((unhide HG).book k hk8).opns hj
      have HOP := hide hop
      clear hB3 hq3 h1 h8 hk hbk hke hBG hop
      go_region_held3 (fun w' : World => w'.cell? ⟨Q, 0, none⟩ = some (.int .i64 c.id) ∧ w'.cell? ⟨Q, 1, none⟩ = some (.int .i64 c.trader) ∧ w'.cell? ⟨Q, 2, none⟩ = some (.int .i64 c.book) ∧ w'.cell? ⟨Q, 3, none⟩ = some (.int .i64 c.side) ∧ w'.cell? ⟨Q, 4, none⟩ = some (.int .i64 c.price) ∧ w'.cell? ⟨Q, 5, none⟩ = some (.int .i64 c.count) ∧ w'.cell? ⟨N, 5, none⟩ = some (.int .i64 c.kind)) (go_keep)
        (first
          | (go_at_call 28; refine (dBook_any bx bb v ro s k hk8 c.book (unhide HK).1 _ ((unhide HP).no ((unhide HB3).1.fr.quiet (by repeat (first | exact Fr.refl _ _ | refine Fr.drew ?_))))).mono ?_; rintro e w4 ⟨rfl, rfl⟩)
          | (go_at_call 91; refine (bBars_any (bb k) bx _ _ (v k) (s.M k) ⟨c.id, c.trader, c.book, c.side, c.price, c.count⟩ c.kind (unhide HO).2.1 _ (unhide HPB _ ((unhide HB3).1.fr.quiet (by repeat (first | exact Fr.refl _ _ | refine Fr.drew ?_)))) (unhide HOP)).mono ?_; rintro e w5 ⟨rfl, hf5'⟩; rw [unhide HBG]; have hf5 : Fr No W3 w5 := Fr.quiet ((Fr.refl _ _).drew) hf5'; have hB5 := (unhide HB3).1.no hf5; have hq5 := hf5.heap (unhide HB3).2 id; obtain ⟨t0, t1, t2, t3, t4, t5, t6, t7, _⟩ := box8 hB5.box; obtain ⟨r0, r1, r2, r3, r4, r5, _⟩ := box6 hq5; have hN5 := hB5.lt; have hQ5 := lt_of_heap hq5; have HB5 := hide (And.intro hB5 hq5); clear hB5 hq5 hf5 hf5'))
      clear z0 z1 z2 z3 z4 z5 z6 z7 q0 q1 q2 q3 q4 q5
      by_cases hB0 : B = 0
      · have HE := hide ((unhide HGB).2 hB0)
        subst hB0
        have hnp : ¬ PS bx bb v N ∧ ¬ PS bx bb v Q := by
          have hlt := (unhide HP).lt
          have := unhide HN
          exact ⟨fun e => by have := hlt N e; omega, fun e => by have := hlt Q e; omega⟩
        have HNP := hide hnp
        clear hnp
        go_wp2
        go_region_held3 (fun w' : World => w'.cell? ⟨Q, 0, none⟩ = some (.int .i64 c.id) ∧ w'.cell? ⟨Q, 1, none⟩ = some (.int .i64 c.trader) ∧ w'.cell? ⟨Q, 2, none⟩ = some (.int .i64 c.book) ∧ w'.cell? ⟨Q, 3, none⟩ = some (.int .i64 c.side) ∧ w'.cell? ⟨Q, 4, none⟩ = some (.int .i64 c.price) ∧ w'.cell? ⟨Q, 5, none⟩ = some (.int .i64 c.count) ∧ w'.cell? ⟨N, 5, none⟩ = some (.int .i64 c.kind)) (go_keep)
          (first
            | (go_at_call 28; refine (dBook_any bx bb v ro s k hk8 c.book (unhide HK).1 _ ((unhide HP).no ((unhide HB5).1.fr.quiet (by repeat (first | exact Fr.refl _ _ | refine Fr.drew ?_))))).mono ?_; rintro e w6 ⟨rfl, rfl⟩)
            | (go_at_call 92; refine (pEnter_any bx bb v ro s k hk8 ⟨c.id, c.trader, c.book, c.side, c.price, c.count⟩ c.kind (unhide HO).2.1 (unhide HO).2.2 _ ((unhide HP).no ((unhide HB5).1.fr.quiet (by repeat (first | exact Fr.refl _ _ | refine Fr.drew ?_)))) (unhide HG)).mono ?_; rintro e w7 ht7; have hB7 := ht7.keep (unhide HB5).1.box (unhide HNP).1; have hq7 := ht7.keep (unhide HB5).2 (unhide HNP).2; obtain ⟨a0, a1, a2, a3, a4, a5, a6, a7, _⟩ := box8 hB7; obtain ⟨b0, b1, b2, b3, b4, b5, _⟩ := box6 hq7; obtain ⟨r7, v7, ro7, rfl, ht7⟩ := ht7; have HT7 := hide ht7; clear hB7 hq7 ht7))
        go_wp2
        go_ret
        rw [unhide HE]
        exact CmdPost.after (unhide HB5).1.fr.drew ⟨_, v7, ro7, rfl, unhide HT7⟩
      · have hBb : (B != 0) = true := by simpa using hB0
        have HE := hide ((unhide HGB).1 hB0)
        clear hB0
        go_wp2_with (go_at_call 50; refine (pRefused_any _ _ _).mono ?_; rintro e w6 ⟨r6, rfl, he6, hf6⟩)
        go_ret
        rw [unhide HE]
        exact CmdPost.said (unhide HP) ((unhide HB5).1.fr.quiet hf6) (es_more (unhide HB5).1.fr he6)
end Go.Proofs.YtigpgnjgmaoejaaGreat
