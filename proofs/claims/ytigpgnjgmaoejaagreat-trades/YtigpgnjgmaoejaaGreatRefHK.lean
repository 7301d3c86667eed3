/- Contract of the document's comes (New) in books that gather, its end: a full book, an order that comes to rest. Conditions: the pit lies in memory, fewer than 100000 orders rest, no book trades. -/
import Derived.Test.YtigpgnjgmaoejaaGreatRefFG
namespace Go.Proofs.YtigpgnjgmaoejaaGreat
open Go.RowKit

theorem restN_le (L : List Ord) (b s : Int) : restN L b s ≤ L.length := List.length_filter_le _ _

theorem box8 {W : World} {b : Nat} {T : TypeId} {x0 x1 x2 x3 x4 x5 x6 x7 : Value} (h : W.heap[b]? = some (.cells #[x0, x1, x2, x3, x4, x5, x6, x7] T (0, 0))) :
    W.cell? ⟨b, 0, none⟩ = some x0 ∧ W.cell? ⟨b, 1, none⟩ = some x1 ∧ W.cell? ⟨b, 2, none⟩ = some x2 ∧ W.cell? ⟨b, 3, none⟩ = some x3 ∧ W.cell? ⟨b, 4, none⟩ = some x4 ∧ W.cell? ⟨b, 5, none⟩ = some x5 ∧ W.cell? ⟨b, 6, none⟩ = some x6 ∧ W.cell? ⟨b, 7, none⟩ = some x7 ∧ ∀ k, W.frozen? ⟨b, k, none⟩ = false :=
  ⟨cell_heap h 0, cell_heap h 1, cell_heap h 2, cell_heap h 3, cell_heap h 4, cell_heap h 5, cell_heap h 6, cell_heap h 7, frozen_heap h⟩

theorem heap_newAt {b : Nat} (w : World) (o : Obj) (h : b = w.heap.size) : (w.alloc o).heap[b]? = some o := by subst h; exact heap_alloc_new w o

/-- Behind a piece that only made memory of its own. -/
theorem RefOut.after {w w1 w' : World} {bp : Nat} {v v' r : Value} {s' : Ref} {E : List Ev} (hf : Fr No w w1) (h : RefOut w1 w' bp v v' s' r E) : RefOut w w' bp v v' s' r E :=
  ⟨h.ref, hf.of_no.same h.fr, fun g hg => (h.new g hg).imp id (fun h => Nat.le_trans hf.size h), own_base h.evs (fun g hg => Nat.le_trans hf.size (h.evs.lt g hg).1), h.apart⟩

def RestPost (w w' : World) (bp : Nat) (v v' : Value) (s : Ref) (c : Cmd) (r : Value) : Prop :=
  if 200 ≤ restN s.L c.book 1 + restN s.L c.book 2 then v' = v ∧ RefOut w w' bp v v s r [refusedE c.id 5]
  else RefOut w w' bp v v' { s with L := s.L ++ [⟨c.id, c.trader, c.book, c.side, c.price, c.count⟩] } r [takenE c.id c.count, restsE c.id c.price c.count]

set_option maxRecDepth 100000 in
set_option maxHeartbeats 4000000 in
theorem comes_rest (bp : Nat) (v : Value) (s : Ref) (c : Cmd) (w : World) (hr : RefAt w bp v s) (hn : s.L.length < 100000) (hok : newOk c = true) (hk : findO s.L c.id = none)
    (htr : ∀ k, k < 9 → s.tr k = false) (hkind : c.kind = 1) :
    Calls Tryz.prog 58 #[.pointer (some ⟨bp, 0, none⟩), c.val] w fun e w' => ∃ r v', e = .returned r ∧ RestPost w w' bp v v' s c r := by
  have HR := hide hr
  have hbp := hr.lt
  obtain ⟨h1, h2, h3, h4, h5, h5', h6, h7⟩ := newOk_parts hok
  obtain ⟨cw, cid, ct, cb, cs, ck, cp, cc⟩ := c
  unfold Cmd.val
  simp only at *
  subst hkind
  have HK := hide hk
  obtain ⟨hb1, hb8⟩ := inB_true h3
  obtain ⟨nb, rfl⟩ := Int.eq_ofNat_of_zero_le (by omega : 0 ≤ cb)
  have hT := hr.cellTr nb (by omega)
  have htn := htr nb (by omega)
  rw [htn] at hT
  replace h6 := h6.resolve_left (by omega)
  obtain ⟨hp1, hp2⟩ := inB_true h6
  obtain ⟨hc1, hc2⟩ := inB_true h7
  have HT := hide htn
  have hs1 : 1 ≤ cs := by omega
  have hs2 : cs ≤ 2 := by omega
  clear hk hok hr htr htn
  have hr1 := restN_le s.L nb 1
  have hr2 := restN_le s.L nb 2
  rcases h4 with rfl | rfl
  all_goals
    go_enter Tryz.func58, Tryz.ntmps58
    go_wp2_with (first
      | (go_at_call 57; refine (in_any _ _ _ _).mono ?_; rintro e w1 ⟨rfl, rfl⟩)
      | (go_at_call 113; refine (find_any bp v s _ _ ((unhide HR).no ((Fr.refl _ _).alloc _)) (by omega)).mono ?_; rintro e w1 ⟨rfl, rfl⟩; rw [unhide HK, show enc none = -1 from rfl]))
    go_quiet (fail)
    go_wp2_with fail
    generalize hW : World.alloc (World.drewN _ nq) _ = W
    have hWf : Fr No w W := by rw [← hW]; exact (((Fr.refl _ _).alloc _).drewN _).alloc _
    have HWS : Hid (W.heap.size = w.heap.size + 2) := by show _ = _; rw [← hW]; simp
    have hWc := (show W.heap[w.heap.size]? = some (.cells #[.int .i64 cw, .int .i64 cid, .int .i64 ct, .int .i64 nb, .int .i64 _, .int .i64 1, .int .i64 cp, .int .i64 cc] 31 (0, 0)) from by rw [← hW]; exact (((Fr.refl No _).drewN _).alloc _).heap (heap_alloc_new w _) id)
    have hWx := (show W.heap[w.heap.size + 1]? = some (.cells #[.int .i64 cid, .int .i64 ct, .int .i64 nb, .int .i64 _, .int .i64 cp, .int .i64 cc] 95 (0, 0)) from by rw [← hW]; exact heap_newAt _ _ (by simp))
    clear hW
    refine (crosses_any bp v s ⟨cid, ct, nb, _, cp, cc⟩ _ ((unhide HR).no hWf) (by omega) (by simp) (by simp)).mono ?_
    rintro e w1 ⟨rfl, hf1⟩
    have hf2 := hWf.quiet hf1
    have hsz1 := hf1.size
    have hWc1 := hf1.heap hWc id
    have hWx1 := hf1.heap hWx id
    clear hWc hWx
    obtain ⟨hy0, hy1, hy2, hy3, hy4, hy5, hy6, hy7, _⟩ := box8 hWc1
    clear hT
    go_wp2
    go_quiet (fail)
    go_wp2
    generalize hW3 : World.drewN w1 nq = w3
    have hf3 : Fr No w w3 := by rw [← hW3]; exact hf2.drewN _
    obtain ⟨hz0, hz1, hz2, hz3, hz4, hz5, hz6, hz7, _⟩ := box8 (show w3.heap[w.heap.size]? = _ from by rw [← hW3]; exact hWc1)
    obtain ⟨hx0, hx1, hx2, hx3, hx4, hx5, _⟩ := box6 (show w3.heap[w.heap.size + 1]? = _ from by rw [← hW3]; exact hWx1)
    have hr4 := (unhide HR).no hf3
    have HR4 := hide hr4
    have HF2 := hide hf3
    clear hWf hWc1 hWx1 hf1 hf2 hf3 hr4 hW3 hy0 hy1 hy2 hy3 hy4 hy5 hy6 hy7
    by_cases hfull : 200 ≤ restN s.L (nb : Int) 1 + restN s.L (nb : Int) 2
    · have hfi : (200 : Int) ≤ (restN s.L (nb : Int) 1 : Int) + (restN s.L (nb : Int) 2 : Int) := by omega
      have HFU := hide hfull
      clear hfull
      go_quiet ((go_at_call 116; exact Calls.quiet_of_same (resting_any bp v s _ _ _ ((unhide HR4).no (by repeat (first | exact Fr.refl _ _ | refine Fr.drewN ?_ _ | refine Fr.drew ?_))) (by omega))))
      go_wp2_with (go_at_call 60; refine (refused_any _ _ _).mono ?_; rintro e w5 ⟨r, rfl, he, hf⟩)
      go_ret
      refine ⟨_, v, rfl, ?_⟩
      unfold RestPost
      rw [if_pos (unhide HFU)]
      exact ⟨rfl, RefOut.after (by repeat (first | exact unhide HF2 | refine Fr.drewN ?_ _ | refine Fr.drew ?_)) (RefOut.said ((unhide HR4).no (by repeat (first | exact Fr.refl _ _ | refine Fr.drewN ?_ _ | refine Fr.drew ?_))) he hf)⟩
    · have hfi : decide ((200 : Int) ≤ (restN s.L (nb : Int) 1 : Int) + (restN s.L (nb : Int) 2 : Int)) = false := by simp; omega
      have HFU := hide hfull
      clear hfull
      go_quiet ((go_at_call 116; exact Calls.quiet_of_same (resting_any bp v s _ _ _ ((unhide HR4).no (by repeat (first | exact Fr.refl _ _ | refine Fr.drewN ?_ _ | refine Fr.drew ?_))) (by omega))))
      go_wp2_with fail
      refine (takes_gather bp v s ⟨cid, ct, nb, _, cp, cc⟩ _ ((unhide HR4).no (by repeat (first | exact Fr.refl _ _ | refine Fr.drewN ?_ _ | refine Fr.drew ?_))) hn nb rfl (by omega) (by omega) (unhide HT) hp1 hc1).mono ?_
      rintro e w5 ⟨r, v5, rfl, ho5⟩
      go_wp2
      go_ret
      refine ⟨_, v5, rfl, ?_⟩
      unfold RestPost
      rw [if_neg (unhide HFU)]
      exact RefOut.after (by repeat (first | exact unhide HF2 | refine Fr.drewN ?_ _ | refine Fr.drew ?_)) ho5
end Go.Proofs.YtigpgnjgmaoejaaGreat

/- Contract of the document's turns (Cancel, Change): wrong numbers, none such, Cancel. Conditions: the pit lies in memory, fewer than 100000 orders rest. -/
namespace Go.Proofs.YtigpgnjgmaoejaaGreat
open Go.RowKit

def turnOk (c : Cmd) : Bool := inB c.id 1 1000000000 && inB c.trader 1 1000 && (c.what != 3 || (inB c.price 1 1000000 && inB c.count 1 1000000))

theorem turnOk_parts {c : Cmd} (h : turnOk c = true) : inB c.id 1 1000000000 = true ∧ inB c.trader 1 1000 = true ∧ (c.what = 3 → inB c.price 1 1000000 = true ∧ inB c.count 1 1000000 = true) := by
  simp only [turnOk, Bool.and_eq_true, Bool.or_eq_true, bne_iff_ne, ne_eq] at h
  exact ⟨h.1.1, h.1.2, fun e => h.2.resolve_left (fun n => n e)⟩

set_option maxRecDepth 100000 in
set_option maxHeartbeats 4000000 in
theorem turns_bad (bp : Nat) (v : Value) (s : Ref) (c : Cmd) (w : World) (hr : RefAt w bp v s) (hbad : turnOk c = false) :
    Calls Tryz.prog 59 #[.pointer (some ⟨bp, 0, none⟩), c.val] w fun e w' => ∃ r, e = .returned r ∧ RefOut w w' bp v v s r [refusedE c.id 2] := by
  have HR := hide hr
  clear hr
  obtain ⟨cw, cid, ct, cb, cs, ck, cp, cc⟩ := c
  unfold Cmd.val
  simp only
  have hB : Hid (turnOk ⟨cw, cid, ct, cb, cs, ck, cp, cc⟩ = false) := hbad
  clear hbad
  go_enter Tryz.func59, Tryz.ntmps59
  go_wp2_with (go_at_call 57; refine (in_any _ _ _ _).mono ?_; rintro e w1 ⟨rfl, rfl⟩)
  all_goals first
    | (go_at_call 60
       refine (refused_any _ _ _).mono ?_
       rintro e w1 ⟨r, rfl, he, hf⟩
       go_wp2
       go_ret
       exact ⟨_, rfl, RefOut.said (unhide HR) (own_base he (fun g hg => by have := (he.lt g hg).1; simp at this; omega)) (((Fr.refl _ _).alloc _).quiet hf)⟩)
    | (exfalso
       have hb := unhide hB
       clear HR
       simp_all [turnOk, inB]
       try omega)

set_option maxRecDepth 100000 in
set_option maxHeartbeats 4000000 in
theorem turns_none (bp : Nat) (v : Value) (s : Ref) (c : Cmd) (w : World) (hr : RefAt w bp v s) (hn : s.L.length ≤ 100000) (hok : turnOk c = true)
    (hk : findO s.L c.id = none ∨ ∃ i, ∃ h : i < s.L.length, findO s.L c.id = some i ∧ s.L[i].trader ≠ c.trader) :
    Calls Tryz.prog 59 #[.pointer (some ⟨bp, 0, none⟩), c.val] w fun e w' => ∃ r, e = .returned r ∧ RefOut w w' bp v v s r [refusedE c.id 4] := by
  have HR := hide hr
  have hbp := hr.lt
  have hL := hr.cellL
  obtain ⟨a, cap, rfl⟩ := hr.form
  obtain ⟨h1, h2, h3⟩ := turnOk_parts hok
  obtain ⟨cw, cid, ct, cb, cs, ck, cp, cc⟩ := c
  unfold Cmd.val
  simp only at *
  rcases hk with hk | ⟨i, hi, hk, hne⟩
  · have HK := hide hk
    clear hk hok hr
    by_cases hw : cw = 3
    all_goals
      first | (subst hw; obtain ⟨h4, h5⟩ := h3 rfl) | (have h4 : (cw == 3) = false := by simpa using hw)
      clear h3
      try clear hw
      go_enter Tryz.func59, Tryz.ntmps59
      go_wp2_with (first
        | (go_at_call 57; refine (in_any _ _ _ _).mono ?_; rintro e w1 ⟨rfl, rfl⟩)
        | (go_at_call 113; refine (find_any bp _ s _ _ ((unhide HR).no ((Fr.refl _ _).alloc _)) hn).mono ?_; rintro e w1 ⟨rfl, rfl⟩; rw [unhide HK, show enc none = -1 from rfl]))
      go_quiet (fail)
      go_wp2_with (go_at_call 60; refine (refused_any _ _ _).mono ?_; rintro e w1 ⟨r, rfl, he, hf⟩)
      go_ret
      exact ⟨_, rfl, RefOut.said (unhide HR) (own_base he (fun g hg => by have := (he.lt g hg).1; simp at this; omega)) ((((Fr.refl _ _).alloc _).drewN _).quiet hf)⟩
  · obtain ⟨g, rfl, hg, _, _, hc1, _⟩ := os_at hr.own i hi
    have HK := hide hk
    have hne' : (s.L[i].trader != ct) = true := by simpa using hne
    have hi0 : decide ((i : Int) < 0) = false := by simp
    have hin : (i : Int) < s.L.length := by omega
    clear hk hok hr hne
    by_cases hw : cw = 3
    all_goals
      first | (subst hw; obtain ⟨h4, h5⟩ := h3 rfl) | (have h4 : (cw == 3) = false := by simpa using hw)
      clear h3
      try clear hw
      go_enter Tryz.func59, Tryz.ntmps59
      go_wp2_with (first
        | (go_at_call 57; refine (in_any _ _ _ _).mono ?_; rintro e w1 ⟨rfl, rfl⟩)
        | (go_at_call 113; refine (find_any bp _ s _ _ ((unhide HR).no ((Fr.refl _ _).alloc _)) hn).mono ?_; rintro e w1 ⟨rfl, rfl⟩; rw [unhide HK, show enc (some i) = (i : Int) from rfl]))
      go_quiet (fail)
      go_wp2_with (go_at_call 60; refine (refused_any _ _ _).mono ?_; rintro e w1 ⟨r, rfl, he, hf⟩)
      go_ret
      exact ⟨_, rfl, RefOut.said (unhide HR) (own_base he (fun g hg => by have := (he.lt g hg).1; simp at this; omega)) ((((Fr.refl _ _).alloc _).drewN _).quiet hf)⟩
end Go.Proofs.YtigpgnjgmaoejaaGreat

/- Contract of the document's turns (Cancel, Change): Cancel of an order that rests, Change to fewer, Change to another order. Conditions: the pit lies in memory, fewer than 100000 orders rest, for another order: no book trades. -/
namespace Go.Proofs.YtigpgnjgmaoejaaGreat
open Go.RowKit

set_option maxRecDepth 100000 in
set_option maxHeartbeats 4000000 in
theorem turns_cancel (bp : Nat) (v : Value) (s : Ref) (c : Cmd) (w : World) (hr : RefAt w bp v s) (hn : s.L.length ≤ 100000) (hok : turnOk c = true)
    (i : Nat) (hi : i < s.L.length) (hk : findO s.L c.id = some i) (heq : s.L[i].trader = c.trader) (hwh : c.what ≠ 3) :
    Calls Tryz.prog 59 #[.pointer (some ⟨bp, 0, none⟩), c.val] w fun e w' => ∃ r v', e = .returned r ∧
      RefOut w w' bp v v' { s with L := s.L.eraseIdx i } r [goneE s.L[i].id s.L[i].opn] := by
  have HR := hide hr
  have hbp := hr.lt
  have hL := hr.cellL
  obtain ⟨a, cap, rfl⟩ := hr.form
  obtain ⟨h1, h2, _⟩ := turnOk_parts hok
  obtain ⟨cw, cid, ct, cb, cs, ck, cp, cc⟩ := c
  unfold Cmd.val
  simp only at *
  obtain ⟨g, rfl, hg, _, hc0, hc1, hc2, hc3, hc4, hc5, _⟩ := os_at hr.own i hi
  have HK := hide hk
  have hne' : (s.L[i].trader != ct) = false := by simpa using heq
  have hi0 : decide ((i : Int) < 0) = false := by simp
  have hin : (i : Int) < s.L.length := by omega
  have h4 : (cw == 3) = false := by simpa using hwh
  clear hk hok hr heq hwh
  go_enter Tryz.func59, Tryz.ntmps59
  go_wp2_with (first
    | (go_at_call 57; refine (in_any _ _ _ _).mono ?_; rintro e w1 ⟨rfl, rfl⟩)
    | (go_at_call 113; refine (find_any bp _ s _ _ ((unhide HR).no ((Fr.refl _ _).alloc _)) hn).mono ?_; rintro e w1 ⟨rfl, rfl⟩; rw [unhide HK, show enc (some i) = (i : Int) from rfl]))
  go_quiet (fail)
  go_wp2_with fail
  generalize hW : World.alloc (World.drewN _ nq) _ = W
  have hWf : Fr No w W := by rw [← hW]; exact (((Fr.refl _ _).alloc _).drewN _).alloc _
  have HWS : Hid (W.heap.size = w.heap.size + 2) := by show _ = _; rw [← hW]; simp
  have hWc : W.heap[w.heap.size]? = some (.cells #[.int .i64 cw, .int .i64 cid, .int .i64 ct, .int .i64 cb, .int .i64 cs, .int .i64 ck, .int .i64 cp, .int .i64 cc] 31 (0, 0)) := by
    rw [← hW]; exact (((Fr.refl No _).drewN _).alloc _).heap (heap_alloc_new w _) id
  have hWx : W.heap[w.heap.size + 1]? = some (.cells #[.int .i64 s.L[i].id, .int .i64 s.L[i].trader, .int .i64 s.L[i].book, .int .i64 s.L[i].side, .int .i64 s.L[i].price, .int .i64 s.L[i].opn] 95 (0, 0)) := by
    rw [← hW]; exact heap_newAt _ _ (by simp)
  clear hW
  have hne1 : ¬ Is bp w.heap.size := fun e => by have : w.heap.size = bp := e; omega
  have hne2 : ¬ Is bp (w.heap.size + 1) := fun e => by have : w.heap.size + 1 = bp := e; omega
  refine (drop_any bp _ s i W ((unhide HR).no hWf) hn).mono ?_
  rintro e w1 ⟨rfl, v1, hr1, hf1, hv1⟩
  obtain ⟨hy0, hy1, hy2, hy3, hy4, hy5, hy6, hy7, _⟩ := box8 (hf1.heap hWc hne1)
  obtain ⟨hx0, hx1, hx2, hx3, hx4, hx5, _⟩ := box6 (hf1.heap hWx hne2)
  have hsz := hf1.size
  have HH := hide (And.intro hWf (And.intro hr1 (And.intro hf1 hv1)))
  have HC := hide (And.intro (hf1.heap hWc hne1) (hf1.heap hWx hne2))
  clear hWf hr1 hf1 hv1 hWc hWx hL hc0 hc1 hc2 hc3 hc4 hc5
  go_wp2_with (go_at_call 119; refine (gone_any _ _ _).mono ?_; rintro e w2 ⟨rfl, hf2⟩; unfold goneE Ev.val; obtain ⟨hz0, _⟩ := box8 (hf2.heap (unhide HC).1 id); have hsz2 := hf2.size; have hsz3 : w.heap.size < w2.heap.size := by have := unhide HWS; omega)
  go_ret
  obtain ⟨hWf, hr1, hf1, hv1⟩ := unhide HH
  have hWS := unhide HWS
  refine ⟨_, v1, rfl, ⟨hr1.no (hf2.alloc _), ?_, ?_, es_newAt (goneE s.L[i].id s.L[i].opn) rfl (by omega), ?_⟩⟩
  · exact ((hWf.of_no.same (hf1.mono fun k _ hk => Or.inl hk)).quiet hf2).alloc _
  · exact fun g hg => .inr (by have := hv1 g hg; omega)
  · intro g hg hg'
    have := own_eq hg
    have := (hr1.own.lt g hg').2
    omega
end Go.Proofs.YtigpgnjgmaoejaaGreat

/- Contract of the document's turns (Change): to fewer at the same price, and to another order. Conditions: the pit lies in memory, fewer than 100000 orders rest, for another order: no book trades. -/
namespace Go.Proofs.YtigpgnjgmaoejaaGreat
open Go.RowKit

theorem flat_set {α : Type} {f : α → List Value} {s : Nat} (hs : ∀ a, (f a).length = s) (L : List α) (i k : Nat) (hi : i < L.length) (hk : k < s) (y : α) (u : Value) (hy : f y = (f L[i]).set k u) :
    (L.set i y).flatMap f = (L.flatMap f).set (i * s + k) u := by
  induction L generalizing i with
  | nil => simp at hi
  | cons x l ih =>
    cases i with
    | zero =>
      simp only [List.set_cons_zero, List.flatMap_cons, Nat.zero_mul, Nat.zero_add, List.getElem_cons_zero] at hy ⊢
      rw [List.set_append_left _ _ (by rw [hs]; exact hk), hy]
    | succ j =>
      simp only [List.set_cons_succ, List.flatMap_cons, List.getElem_cons_succ] at hy ⊢
      rw [List.set_append_right _ _ (by rw [hs, Nat.add_mul]; omega), hs, show (j + 1) * s + k - s = j * s + k from by rw [Nat.add_mul]; omega,
        ih j (by simpa using hi) hy]

/-- A store into a cell of a slice of records that is owned. -/
theorem own_set {α : Type} {f : α → List Value} {s : Nat} (hs : ∀ a, (f a).length = s) {w : World} {base : Nat} {e : TypeId} {g n cap : Nat} {L : List α}
    (h : w.ownsRow base e s (.slice (some ⟨g, 0, none⟩) n cap) L.length (L.flatMap f)) (i k : Nat) (hi : i < L.length) (hk : k < s) (y : α) (u : Value) (hy : f y = (f L[i]).set k u) :
    (w.setCell ⟨g, i * s + k, none⟩ u).ownsRow base e s (.slice (some ⟨g, 0, none⟩) n cap) (L.set i y).length ((L.set i y).flatMap f) := by
  refine ⟨by rw [flat_len hs], ?_⟩
  rcases h.2 with ⟨_, h0⟩ | ⟨g', cap', cur, hv, hb, hg, hn, hm, hcs, ht⟩
  · omega
  · simp only [Value.slice.injEq, Option.some.injEq, Addr.mk.injEq, and_true] at hv
    obtain ⟨rfl, rfl, rfl⟩ := hv
    refine .inr ⟨g, cap, _, by simp, hb, heap_set hg _ _, by simpa using hn, hm, by simpa using hcs, ?_⟩
    rw [flat_set hs L i k hi hk y u hy, ← ht]
    simp [List.take_set]

set_option maxRecDepth 100000 in
set_option maxHeartbeats 4000000 in
theorem turns_shrink (bp : Nat) (v : Value) (s : Ref) (c : Cmd) (w : World) (hr : RefAt w bp v s) (hn : s.L.length ≤ 100000) (hok : turnOk c = true)
    (i : Nat) (hi : i < s.L.length) (hk : findO s.L c.id = some i) (heq : s.L[i].trader = c.trader) (hwh : c.what = 3) (hpr : c.price = s.L[i].price) (hct : c.count ≤ s.L[i].opn) :
    Calls Tryz.prog 59 #[.pointer (some ⟨bp, 0, none⟩), c.val] w fun e w' => ∃ r, e = .returned r ∧
      RefOut w w' bp v v { s with L := s.L.set i { s.L[i] with opn := c.count } } r [restsE s.L[i].id s.L[i].price c.count] := by
  have HR := hide hr
  have hbp := hr.lt
  have hL := hr.cellL
  obtain ⟨a, cap, rfl⟩ := hr.form
  obtain ⟨h1, h2, h3⟩ := turnOk_parts hok
  obtain ⟨cw, cid, ct, cb, cs, ck, cp, cc⟩ := c
  unfold Cmd.val
  simp only at *
  subst hwh
  obtain ⟨h4, h5⟩ := h3 rfl
  obtain ⟨g, rfl, hg, _, hc0, hc1, hc2, hc3, hc4, hc5, hfz⟩ := os_at hr.own i hi
  have HK := hide hk
  have hne' : (s.L[i].trader != ct) = false := by simpa using heq
  have hi0 : decide ((i : Int) < 0) = false := by simp
  have hin : (i : Int) < s.L.length := by omega
  have hpe : (cp == s.L[i].price) = true := by simpa using hpr
  have hgb : g ≠ bp := fun e => hr.apart (by rw [← e]; rfl)
  have hfz5 := hfz (i * 6 + 5)
  clear hk hok hr heq h3 hpr hfz
  go_enter Tryz.func59, Tryz.ntmps59
  go_wp2_with (first
    | (go_at_call 57; refine (in_any _ _ _ _).mono ?_; rintro e w1 ⟨rfl, rfl⟩)
    | (go_at_call 113; refine (find_any bp _ s _ _ ((unhide HR).no ((Fr.refl _ _).alloc _)) hn).mono ?_; rintro e w1 ⟨rfl, rfl⟩; rw [unhide HK, show enc (some i) = (i : Int) from rfl]))
  go_quiet (fail)
  go_wp2
  generalize hW : World.alloc (World.drewN _ nq) _ = W
  have hWf : Fr No w W := by rw [← hW]; exact (((Fr.refl _ _).alloc _).drewN _).alloc _
  have HWS : Hid (W.heap.size = w.heap.size + 2) := by show _ = _; rw [← hW]; simp
  have hWc : W.heap[w.heap.size]? = some (.cells #[.int .i64 3, .int .i64 cid, .int .i64 ct, .int .i64 cb, .int .i64 cs, .int .i64 ck, .int .i64 cp, .int .i64 cc] 31 (0, 0)) := by
    rw [← hW]; exact (((Fr.refl No _).drewN _).alloc _).heap (heap_alloc_new w _) id
  have hWx : W.heap[w.heap.size + 1]? = some (.cells #[.int .i64 s.L[i].id, .int .i64 s.L[i].trader, .int .i64 s.L[i].book, .int .i64 s.L[i].side, .int .i64 s.L[i].price, .int .i64 s.L[i].opn] 95 (0, 0)) := by
    rw [← hW]; exact heap_newAt _ _ (by simp)
  clear hW
  have hr2 := (unhide HR).no hWf
  have hL2 := hr2.cellL
  obtain ⟨g', hgg, hg2, _, hd0, hd1, hd2, hd3, hd4, hd5, hfz2⟩ := os_at hr2.own i hi
  simp only [Option.some.injEq, Addr.mk.injEq, and_true] at hgg
  subst hgg
  have hfz3 := hfz2 (i * 6 + 5)
  obtain ⟨hy0, hy1, hy2, hy3, hy4, hy5, hy6, hy7, _⟩ := box8 hWc
  obtain ⟨hx0, hx1, hx2, hx3, hx4, hx5, _⟩ := box6 hWx
  have HR2 := hide hr2
  have HWF := hide hWf
  have hb2 : bp < W.heap.size := by have := unhide HWS; omega
  have hb3 : w.heap.size + 1 < W.heap.size := by have := unhide HWS; omega
  have hgw : g ≠ w.heap.size := by omega
  have hgw1 : g ≠ w.heap.size + 1 := by omega
  clear hWf hWc hWx hL hr2 hfz2 hc0 hc1 hc2 hc3 hc4 hc5 hfz5
  go_region
  all_goals
    go_wp2
    go_ret
    have hset := own_set Ord.len (unhide HR2).own i 5 hi (by omega) { s.L[i] with opn := cc } (.int .i64 cc) rfl
    have hWS := unhide HWS
    have hS : OwnS (.slice (some ⟨g, 0, none⟩) s.L.length cap) g := rfl
    refine ⟨_, rfl, ⟨⟨?_, own_fr hset (by repeat (first | exact Fr.refl No _ | refine Fr.alloc ?_ _ | refine Fr.drew ?_)) (fun _ _ => id), (unhide HR).apart⟩, ?_, fun g hg => .inl hg, es_newAt (restsE s.L[i].id s.L[i].price cc) (by simp) (by simp; omega), ?_⟩⟩
    · refine Fr.heap (S := OwnS (.slice (some ⟨g, 0, none⟩) s.L.length cap)) (w := W) ?_ (unhide HR2).blk (fun e => hgb (own_eq e).symm)
      repeat (first | exact Fr.refl _ _ | refine Fr.alloc ?_ _ | refine Fr.drew ?_ | refine Fr.setAt ?_ g (.inr hS) _ _)
    · refine (Fr.of_no (S := RefS bp (.slice (some ⟨g, 0, none⟩) s.L.length cap)) (unhide HWF)).same ?_
      repeat (first | exact Fr.refl _ _ | refine Fr.alloc ?_ _ | refine Fr.drew ?_ | refine Fr.setAt ?_ g (.inr (.inr hS)) _ _)
    · intro k hk hk'
      have e1 := own_eq hk
      have e2 := own_eq hk'
      try simp at e1
      omega

set_option maxRecDepth 100000 in
set_option maxHeartbeats 4000000 in
theorem turns_anew (bp : Nat) (v : Value) (s : Ref) (c : Cmd) (w : World) (hr : RefAt w bp v s) (hn : s.L.length ≤ 100000) (hok : turnOk c = true)
    (i : Nat) (hi : i < s.L.length) (hk : findO s.L c.id = some i) (heq : s.L[i].trader = c.trader) (hwh : c.what = 3) (hno : ¬ (c.price = s.L[i].price ∧ c.count ≤ s.L[i].opn))
    (nb : Nat) (hbk : s.L[i].book = nb) (hb1 : 1 ≤ nb) (hb8 : nb ≤ 8) (htr : s.tr nb = false) :
    Calls Tryz.prog 59 #[.pointer (some ⟨bp, 0, none⟩), c.val] w fun e w' => ∃ r v', e = .returned r ∧
      RefOut w w' bp v v' { s with L := s.L.eraseIdx i ++ [{ s.L[i] with price := c.price, opn := c.count }] } r
        [goneE s.L[i].id s.L[i].opn, takenE s.L[i].id c.count, restsE s.L[i].id c.price c.count] := by
  have HR := hide hr
  have hbp := hr.lt
  have hL := hr.cellL
  obtain ⟨a, cap, rfl⟩ := hr.form
  obtain ⟨h1, h2, h3⟩ := turnOk_parts hok
  obtain ⟨cw, cid, ct, cb, cs, ck, cp, cc⟩ := c
  unfold Cmd.val
  simp only at *
  subst hwh
  obtain ⟨h4, h5⟩ := h3 rfl
  obtain ⟨hp1, _⟩ := inB_true h4
  obtain ⟨hq1, _⟩ := inB_true h5
  obtain ⟨g, rfl, hg, _, hc0, hc1, hc2, hc3, hc4, hc5, hfz⟩ := os_at hr.own i hi
  have HK := hide hk
  have hne' : (s.L[i].trader != ct) = false := by simpa using heq
  have hi0 : decide ((i : Int) < 0) = false := by simp
  have hin : (i : Int) < s.L.length := by omega
  have hno' : (cp == s.L[i].price) = false ∨ decide (cc ≤ s.L[i].opn) = false := by
    by_cases h : cp = s.L[i].price
    · right; have : ¬ cc ≤ s.L[i].opn := fun h' => hno ⟨h, h'⟩; simpa using this
    · left; simpa using h
  have HB := hide (And.intro hbk htr)
  clear hk hok hr heq h3 hno hfz hbk htr
  by_cases hpe : (cp == s.L[i].price) = true
  all_goals
    first | replace hno' := hno'.resolve_left (by rw [hpe]; simp) | (replace hpe : (cp == s.L[i].price) = false := by simpa using hpe)
    go_enter Tryz.func59, Tryz.ntmps59
    go_wp2_with (first
      | (go_at_call 57; refine (in_any _ _ _ _).mono ?_; rintro e w1 ⟨rfl, rfl⟩)
      | (go_at_call 113; refine (find_any bp _ s _ _ ((unhide HR).no ((Fr.refl _ _).alloc _)) hn).mono ?_; rintro e w1 ⟨rfl, rfl⟩; rw [unhide HK, show enc (some i) = (i : Int) from rfl]))
    go_quiet (fail)
    go_wp2_with fail
    generalize hW : World.alloc (World.drewN _ nq) _ = W
    have hWf : Fr No w W := by rw [← hW]; exact (((Fr.refl _ _).alloc _).drewN _).alloc _
    have HWS : Hid (W.heap.size = w.heap.size + 2) := by show _ = _; rw [← hW]; simp
    have hWc : W.heap[w.heap.size]? = some (.cells #[.int .i64 3, .int .i64 cid, .int .i64 ct, .int .i64 cb, .int .i64 cs, .int .i64 ck, .int .i64 cp, .int .i64 cc] 31 (0, 0)) := by
      rw [← hW]; exact (((Fr.refl No _).drewN _).alloc _).heap (heap_alloc_new w _) id
    have hWx : W.heap[w.heap.size + 1]? = some (.cells #[.int .i64 s.L[i].id, .int .i64 s.L[i].trader, .int .i64 s.L[i].book, .int .i64 s.L[i].side, .int .i64 s.L[i].price, .int .i64 s.L[i].opn] 95 (0, 0)) := by
      rw [← hW]; exact heap_newAt _ _ (by simp)
    clear hW
    have hne1 : ¬ Is bp w.heap.size := fun e => by have : w.heap.size = bp := e; omega
    have hne2 : ¬ Is bp (w.heap.size + 1) := fun e => by have : w.heap.size + 1 = bp := e; omega
    refine (drop_any bp _ s i W ((unhide HR).no hWf) hn).mono ?_
    rintro e w1 ⟨rfl, v1, hr1, hf1, hv1⟩
    obtain ⟨hx0, hx1, hx2, hx3, hx4, hx5, _⟩ := box6 (hf1.heap hWx hne2)
    have hsz := hf1.size
    have HH := hide (And.intro hWf (And.intro hr1 (And.intro hf1 hv1)))
    have HC := hide (And.intro (hf1.heap hWc hne1) (hf1.heap hWx hne2))
    clear hWf hr1 hf1 hv1 hWc hWx hL hc0 hc1 hc2 hc3 hc4 hc5
    go_wp2_with fail
    refine (gone_any _ _ _).mono ?_
    rintro e w2 ⟨rfl, hf2⟩
    unfold goneE Ev.val
    obtain ⟨hz0, hz1, hz2, hz3, hz4, hz5, hz6, hz7, _⟩ := box8 (hf2.heap (unhide HC).1 id)
    obtain ⟨hu0, hu1, hu2, hu3, hu4, hu5, huf⟩ := box6 (hf2.heap (unhide HC).2 id)
    have hu6 := huf 4
    have hu7 := huf 5
    have hsz2 := hf2.size
    have hsz3 : w.heap.size + 1 < w2.heap.size := by have := unhide HWS; omega
    have hsz4 : w.heap.size < w2.heap.size := by omega
    clear hx0 hx1 hx2 hx3 hx4 hx5
    go_wp2_with fail
    generalize hW3 : World.alloc (World.setCell _ _ _) _ = W3
    have hF3 : Fr (Is (w.heap.size + 1)) w2 W3 := by
      rw [← hW3]
      exact (((Fr.refl _ _).setAt _ (.inr (Is.self _)) _ _).setAt _ (.inr (Is.self _)) _ _).alloc _
    have HS3 : Hid (W3.heap.size = w2.heap.size + 1) := by show _ = _; rw [← hW3]; simp [World.setCell]
    obtain ⟨hWf, hr1, hf1, hv1⟩ := unhide HH
    have hWS := unhide HWS
    have hlt1 : ∀ g, v1.ownBlock = some g → w.heap.size + 2 ≤ g := fun g hg => by have := hv1 g hg; omega
    have hr2 := hr1.no hf2
    have hr3 : RefAt W3 bp v1 { s with L := s.L.eraseIdx i } := hr2.fr hF3 (fun e => by have : bp = w.heap.size + 1 := e; omega) (fun g hg e => by have : g = w.heap.size + 1 := e; have := hlt1 g hg; omega)
    have hl3 : Es W3 (w.heap.size) (.slice (some ⟨w2.heap.size, 0, none⟩) 1 1) [goneE s.L[i].id s.L[i].opn] := by
      rw [← hW3]
      exact es_newAt (goneE s.L[i].id s.L[i].opn) (by simp [World.setCell]) (by simp [World.setCell]; omega)
    have hfa : Fr (RefS bp (.slice (some ⟨g, 0, none⟩) s.L.length cap)) w W3 := by
      refine ((hWf.of_no.same (hf1.mono fun k _ hk => Or.inl hk)).quiet hf2).trans hF3 ?_
      intro k hk e
      have : k = w.heap.size + 1 := e
      omega
    clear hW3
    have hlen : (s.L.eraseIdx i).length < 100000 := by rw [List.length_eraseIdx, if_pos hi]; omega
    refine (takes_gather bp v1 { s with L := s.L.eraseIdx i } { s.L[i] with price := cp, opn := cc } W3 hr3 hlen nb (unhide HB).1 hb1 hb8 (unhide HB).2 hp1 hq1).mono ?_
    rintro e w4 ⟨r4, v4, rfl, ho4⟩
    have hv1lt : ∀ g, v1.ownBlock = some g → g < w2.heap.size := fun g hg => (hr2.own.lt g hg).2
    have hS3 := unhide HS3
    have hnl : ¬ RefS bp v1 w2.heap.size := by
      rintro (h | h)
      · omega
      · have := hv1lt _ h; omega
    have hl4 := own_fr hl3 ho4.fr (fun g hg => by have := own_eq hg; subst this; exact hnl)
    obtain ⟨g4, c4, hr4e, _, hg4⟩ := World.ownsRow.form ho4.evs (by simp)
    subst hr4e
    have hn4 := own_news ho4.evs
    have hf4 := ho4.fr
    have hsz5 := hf4.size
    have hsz6 : w.heap.size ≤ w4.heap.size := by omega
    have HX := hide (And.intro hfa (And.intro ho4 (And.intro hl4 (And.intro hv1lt (And.intro hlt1 (And.intro hS3 hn4))))))
    clear hfa ho4 hl4 hv1lt hlt1 hS3 hWf hr1 hf1 hv1 hr2 hr3 hl3 hF3 hn4 hf4 hWS hf2
    go_wp2_with (at_builtin; go_loud (refine app_ev rfl (.tmp 131) (.tmp 132) rfl w.heap.size _ [goneE s.L[i].id s.L[i].opn] (unhide HX).2.2.1 rfl ⟨g4, 0, none⟩ 2 c4 [takenE s.L[i].id cc, restsE s.L[i].id cp cc] rfl rfl (by simp) (unhide HX).2.2.2.2.2.2 (by simp) (by omega) ?_; intro g5 c5 w5 hown5 hfr5 hat5 hlt5))
    go_ret
    obtain ⟨hfa, ho4, hl4, hv1lt, hlt1, hS3, _⟩ := unhide HX
    have hv4 : ∀ g, v4.ownBlock = some g → g ≠ w2.heap.size ∧ w.heap.size ≤ g ∧ g < w4.heap.size := fun g hg => by
      have h1 := (ho4.ref.own.lt g hg).2
      rcases ho4.new g hg with h | h
      · have := hv1lt g h; have := hlt1 g h; omega
      · omega
    have hl0 : ∀ g, OwnS (.slice (some ⟨w2.heap.size, 0, none⟩) 1 1) g → g = w2.heap.size := fun g hg => own_eq hg
    refine ⟨_, v4, rfl, ⟨ho4.ref.fr hfr5 (fun e => by have := hl0 _ e; omega) (fun g hg e => (hv4 g hg).1 (hl0 _ e)), ?_, fun g hg => .inr (hv4 g hg).2.1, hown5, ?_⟩⟩
    · refine (hfa.trans ho4.fr ?_).trans hfr5 (fun k hk e => by have := hl0 _ e; omega)
      rintro k hk (h | h)
      · exact .inl h
      · have := hlt1 k h; omega
    · intro k hk hk'
      have e1 := own_eq hk
      have := hv4 k hk'
      rcases hat5 with h | h
      · have := hl0 _ h; omega
      · omega
end Go.Proofs.YtigpgnjgmaoejaaGreat
