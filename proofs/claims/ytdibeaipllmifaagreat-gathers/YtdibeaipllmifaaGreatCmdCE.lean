/- The pit's command Cancel. Conditions: the pit lies in memory and is good. -/
import Derived.Test.YtdibeaipllmifaaGreatCmdAB
namespace Go.Proofs.YtdibeaipllmifaaGreat
open Go.RowKit

theorem inBook_uniq {L : List Ord} (h : (L.map Ord.id).Nodup) (k : Nat) : Uniq (inBook L k) := by
  refine List.nodup_append.2 ⟨sideOf_nodup h, sideOf_nodup h, fun a ha b hb e => ?_⟩
  obtain ⟨x, hx, rfl⟩ := List.mem_map.1 ha
  obtain ⟨y, hy, rfl⟩ := List.mem_map.1 hb
  obtain ⟨hx1, hx2⟩ := mem_sideOf.1 hx
  obtain ⟨hy1, hy2⟩ := mem_sideOf.1 hy
  have := id_inj h hx1 hy1 e
  subst this
  simp only [inSide, Bool.and_eq_true, beq_iff_eq] at hx2 hy2
  have h1 := hx2.2
  have h2 := hy2.2
  rw [h1] at h2
  exact absurd h2 (by decide)
theorem inBook_without (L : List Ord) (k j : Nat) (id : Int) : inBook (without id L) k j = without id (inBook L k j) := side_without _ _ _ _
theorem inBook_reopen (L : List Ord) (k j : Nat) (id c : Int) : inBook (L.map (reopen id c)) k j = (inBook L k j).map (reopen id c) := side_reopen _ _ _ _ _
theorem notin_book {L : List Ord} (h : (L.map Ord.id).Nodup) {x : Ord} (hx : x ∈ L) {i j : Nat} (hb : x.book ≠ (i : Int) + 1) : x.id ∉ (inBook L i j).map Ord.id := fun hm => by
  obtain ⟨y, hy, e⟩ := List.mem_map.1 hm
  obtain ⟨hy1, hy2⟩ := mem_sideOf.1 hy
  have := id_inj h hy1 hx e
  subst this
  simp only [inSide, Bool.and_eq_true, beq_iff_eq] at hy2
  exact hb hy2.1
theorem PitAt.removed {w w' : World} {bx : Nat} {bb : Nat → Nat} {v : Nat → Nat → Value} {ro : Nat → Nat} {s : Ref} (h : PitAt w bx bb v ro s) (hg : (s.L.map Ord.id).Nodup) {k : Nat} (hk : k < 8) {x : Ord} (hx : x ∈ s.L) (hb : x.book = (k : Int) + 1) {v' : Nat → Value}
    (ht : BTo w w' (bb k) bx (s.tr (k + 1)) (s.td (k + 1)) (v k) v' (fun j => without x.id (inBook s.L k j))) :
    ∃ ro', PitAt w' bx bb (upd v k v') ro' { s with L := without x.id s.L } ∧ Fr (PS bx bb v) w w' ∧ ∀ g, PS bx bb (upd v k v') g → PS bx bb v g ∨ w.heap.size ≤ g :=
  h.to hk ht (fun j _ => (inBook_without _ _ _ _).symm) (fun i _ hik j _ => by rw [inBook_without, without_self (notin_book hg hx (by omega))])
theorem PitAt.reopened {w w' : World} {bx : Nat} {bb : Nat → Nat} {v : Nat → Nat → Value} {ro : Nat → Nat} {s : Ref} (h : PitAt w bx bb v ro s) (hg : (s.L.map Ord.id).Nodup) {k : Nat} (hk : k < 8) {x : Ord} (hx : x ∈ s.L) (hb : x.book = (k : Int) + 1) {c : Int} {v' : Nat → Value}
    (ht : BTo w w' (bb k) bx (s.tr (k + 1)) (s.td (k + 1)) (v k) v' (fun j => (inBook s.L k j).map (reopen x.id c))) :
    ∃ ro', PitAt w' bx bb (upd v k v') ro' { s with L := s.L.map (reopen x.id c) } ∧ Fr (PS bx bb v) w w' ∧ ∀ g, PS bx bb (upd v k v') g → PS bx bb v g ∨ w.heap.size ≤ g :=
  h.to hk ht (fun j _ => (inBook_reopen _ _ _ _ _).symm) (fun i _ hik j _ => by rw [inBook_reopen, map_reopen_self (notin_book hg hx (by omega))])

/-- What Cancel and Change come to, by the order that is found. -/
theorem gTurn_of {L : List Ord} (hn : (L.map Ord.id).Nodup) {c : Cmd} (hok : turnOk c = true) :
    match ofT c.trader (restO L c.id) with
    | none => gTurn L c = (L, [refusedE c.id 4])
    | some x => x ∈ L ∧ x.id = c.id ∧ x.trader = c.trader ∧ gTurn L c =
        if c.what ≠ 3 then (without x.id L, [goneO x])
        else if c.price = x.price ∧ c.count ≤ x.opn then (L.map (reopen x.id c.count), [restsE x.id x.price c.count])
        else (without x.id L ++ [{ x with price := c.price, opn := c.count }], [goneO x, takenE x.id c.count, restsE x.id c.price c.count]) := by
  cases hf : findO L c.id with
  | none => simp [restO, hf, ofT, gTurn, hok]
  | some i =>
    have hi := findO_lt' hf
    have hid := findO_idx hf hi
    have e1 := erase_without hn hi
    have e2 := @set_reopen c.count L hn i hi
    have hr : restO L c.id = some L[i] := by simp [restO, hf, List.getElem?_eq_getElem hi]
    have hm := List.getElem_mem hi
    have hgt : gTurn L c = gAt L c i L[i] := by simp [gTurn, hok, hf, List.getElem?_eq_getElem hi]
    rw [hr]
    generalize L[i] = x at *
    by_cases ht : x.trader = c.trader
    · rw [show ofT c.trader (some x) = some x by simp [ofT, ht]]
      refine ⟨hm, hid, ht, ?_⟩
      rw [hgt]
      unfold gAt
      rw [if_neg (by simpa using ht), e1, e2]
      rfl
    · rw [show ofT c.trader (some x) = none by simp [ofT, ht]]
      simp only
      rw [hgt]
      unfold gAt
      rw [if_pos ht]
theorem turnOk_cancel {c : Cmd} (h : c.what ≠ 3) : turnOk c = (inB c.id 1 1000000000 && inB c.trader 1 1000) := by
  simp [turnOk, h]

set_option maxHeartbeats 8000000 in
set_option maxRecDepth 20000 in
theorem cancel_any (bx : Nat) (bb : Nat → Nat) (v : Nat → Nat → Value) (ro : Nat → Nat) (s : Ref) (c : Cmd) (w : World) (h : PitAt w bx bb v ro s) (hg : Good s) (hwh : c.what ≠ 3) :
    Calls Tryz.prog 24 #[.pointer (some ⟨bx, 0, none⟩), c.val] w (CmdPost w bx bb v s (gTurn s.L c)) := by
  have HP := hide h
  have HG := hide hg
  have HT : Hid (turnOk c = true → _) := fun hok => gTurn_of hg.ids (c := c) hok
  have HOK := hide (turnOk_cancel hwh)
  obtain ⟨X, hX⟩ : ∃ X, X = gTurn s.L c := ⟨_, rfl⟩
  rw [← hX]
  have HX := hide hX
  have HW := hide hwh
  clear h hg hX hwh
  unfold Cmd.val
  go_enter Tryz.func24, Tryz.ntmps24
  go_wp2_with fail
  generalize hW : World.alloc w _ = W0
  have hB0 : Boxed w W0 w.heap.size c := newAt hW rfl
  generalize hN : w.heap.size = N at *
  have HN := hide hN
  clear hW hN
  have hN1 := hB0.lt
  obtain ⟨y0, y1, y2, y3, y4, y5, y6, y7, _⟩ := box8 hB0.box
  have HB0 := hide hB0
  clear hB0
  generalize hb1 : inB c.id 1 1000000000 = b1 at *
  generalize hb2 : inB c.trader 1 1000 = b2 at *
  have HBB := hide (And.intro hb1 hb2)
  clear hb1 hb2
  refine (isId_any c.id W0).mono ?_
  rintro e w1 ⟨rfl, rfl⟩
  rw [(unhide HBB).1]
  cases b1 with
  | false =>
    have HE : Hid (X = (s.L, [refusedE c.id 2])) := by show _ = _; rw [unhide HX]; simp [gTurn, unhide HOK]
    go_wp2_with (go_at_call 29; refine (pRefused_any _ _ _).mono ?_; rintro e w2 ⟨r2, rfl, he2, hf2⟩)
    go_ret
    rw [unhide HE]
    exact CmdPost.said (unhide HP) ((unhide HB0).fr.quiet hf2) (es_more (unhide HB0).fr he2)
  | true =>
    cases b2 with
    | false =>
      have HE : Hid (X = (s.L, [refusedE c.id 2])) := by show _ = _; rw [unhide HX]; simp [gTurn, unhide HOK]
      go_wp2_with (first
        | (go_at_call 56; refine (isTrader_any c.trader _).mono ?_; rintro e w2 ⟨rfl, rfl⟩; rw [(unhide HBB).2])
        | (go_at_call 29; refine (pRefused_any _ _ _).mono ?_; rintro e w2 ⟨r2, rfl, he2, hf2⟩))
      go_ret
      rw [unhide HE]
      exact CmdPost.said (unhide HP) ((unhide HB0).fr.quiet hf2) (es_more (unhide HB0).fr he2)
    | true =>
      have hT := unhide HT (by rw [unhide HOK]; rfl)
      go_wp2_with (go_at_call 56; refine (isTrader_any c.trader _).mono ?_; rintro e w2 ⟨rfl, rfl⟩; rw [(unhide HBB).2])
      refine (pRestingOf_any bx bb v ro s c.trader c.id _ ((unhide HP).no (unhide HB0).fr) (unhide HG)).mono ?_
      rintro e w2 ⟨rfl, hf2⟩
      have hB2 := (unhide HB0).no hf2
      have hN2 := hB2.lt
      obtain ⟨z0, z1, z2, z3, z4, z5, z6, z7, _⟩ := box8 hB2.box
      have HB2 := hide hB2
      clear hB2 hf2 y0 y1 y2 y3 y4 y5 y6 y7
      cases hro : ofT c.trader (restO s.L c.id) with
      | none =>
        rw [hro] at hT
        have HE : Hid (X = (s.L, [refusedE c.id 4])) := by show _ = _; rw [unhide HX]; exact hT
        clear hro hT
        rw [show ordR none = .tuple #[.agg #[.int .i64 0, .int .i64 0, .int .i64 0, .int .i64 0, .int .i64 0, .int .i64 0], .bool false] from rfl]
        go_wp2_with (go_at_call 29; refine (pRefused_any _ _ _).mono ?_; rintro e w3 ⟨r3, rfl, he3, hf3⟩)
        go_ret
        rw [unhide HE]
        have hfa := (unhide HB2).fr.alloc (.cells #[.int .i64 0, .int .i64 0, .int .i64 0, .int .i64 0, .int .i64 0, .int .i64 0] 76)
        exact CmdPost.said (unhide HP) (hfa.quiet hf3) (es_more hfa he3)
      | some x =>
        rw [hro] at hT
        obtain ⟨hx1, hx2, hx3, hx4⟩ := hT
        rw [if_pos (unhide HW)] at hx4
        have HE : Hid (X = (without x.id s.L, [goneO x])) := by show _ = _; rw [unhide HX]; exact hx4
        obtain ⟨⟨hb1, hb8⟩, _⟩ := (unhide HG).ord x hx1
        obtain ⟨k, hk⟩ := Int.eq_ofNat_of_zero_le (by omega : 0 ≤ x.book - 1)
        have hbk : x.book = (k : Int) + 1 := by omega
        have hk8 : k < 8 := by omega
        have HK := hide (And.intro hbk hx1)
        clear hro hx1 hx2 hx3 hx4 hb1 hb8 hk hbk
        rw [show ordR (some x) = .tuple #[.agg #[.int .i64 x.id, .int .i64 x.trader, .int .i64 x.book, .int .i64 x.side, .int .i64 x.price, .int .i64 x.opn], .bool true] from rfl]
        go_wp2
        generalize hW3 : World.alloc w2 _ = W3
        have hf3 : Fr No w2 W3 := by rw [← hW3]; exact (Fr.refl _ _).alloc _
        have hq3 : W3.heap[w2.heap.size]? = some (.cells #[.int .i64 x.id, .int .i64 x.trader, .int .i64 x.book, .int .i64 x.side, .int .i64 x.price, .int .i64 x.opn] 76 (0, 0)) := by rw [← hW3]; exact heap_alloc_new w2 _
        generalize hQ : w2.heap.size = Q at *
        have hQw : N < Q := by omega
        have hB3 := (unhide HB2).no hf3
        have hQ3 := lt_of_heap hq3
        clear hW3 hf3 hQ z0 z1 z2 z3 z4 z5 z6 z7
        obtain ⟨q0, q1, q2, q3, q4, q5, _⟩ := box6 hq3
        have HB3 := hide (And.intro hB3 hq3)
        have hnb : ¬ BS (bb k) (v k) Q := fun e => by
          have := (unhide HP).lt Q (.inr ⟨k, hk8, e⟩)
          have := unhide HN
          omega
        have HNB := hide hnb
        clear hB3 hq3 hnb
        go_region_held3 (fun w' : World => w'.cell? ⟨Q, 0, none⟩ = some (.int .i64 x.id) ∧ w'.cell? ⟨Q, 2, none⟩ = some (.int .i64 x.book)) (go_keep)
          (first
            | (go_at_call 52; refine (pBook_any bx bb v ro s k hk8 x.book (unhide HK).1 _ ((unhide HP).no ((unhide HB3).1.fr.quiet (by repeat (first | exact Fr.refl _ _ | refine Fr.drew ?_))))).mono ?_; rintro e w4 ⟨rfl, rfl⟩)
            | (go_at_call 58; refine (bRemove_any (bb k) bx _ _ (v k) (inBook s.L k) x.id _ (((unhide HP).book k hk8).no ((unhide HB3).1.fr.quiet (by repeat (first | exact Fr.refl _ _ | refine Fr.drew ?_)))) (inBook_uniq (unhide HG).ids k)).mono ?_; rintro e w5 ⟨rfl, v5, ht5⟩; have hf5 : Fr (BS (bb k) (v k)) W3 w5 := Fr.same ((Fr.refl _ _).drew) ht5.fr; have hq5 := hf5.heap (unhide HB3).2 (unhide HNB); obtain ⟨r0, r1, r2, r3, r4, r5, _⟩ := box6 hq5; have hQ5 := lt_of_heap hq5; have HT5 := hide (And.intro ht5 hf5); clear ht5 hf5 hq5))
        go_wp2_with fail
        refine (eGone_any x w5).mono ?_
        rintro e w6 ⟨rfl, hf6⟩
        have HF6 := hide hf6
        clear hf6
        rw [show (goneO x).val = .agg #[.int .i64 5, .int .i64 x.id, .int .i64 0, .int .i64 0, .int .i64 x.opn, .int .i64 0] from rfl]
        go_wp2
        go_ret
        obtain ⟨ht5, hf5⟩ := unhide HT5
        have hf6 := unhide HF6
        have hfw : Fr No w W3.drew := (unhide HB3).1.fr.drew
        obtain ⟨ro5, hp5, hfr5, hnw5⟩ := ((unhide HP).no hfw).removed (unhide HG).ids hk8 (unhide HK).2 (unhide HK).1 ht5
        have hfr6 := hf6.alloc (.cells #[.int .i64 5, .int .i64 x.id, .int .i64 0, .int .i64 0, .int .i64 x.opn, .int .i64 0] 71)
        have hsz : w.heap.size ≤ w6.heap.size := Nat.le_trans hfw.size (Nat.le_trans hfr5.size hf6.size)
        rw [unhide HE]
        refine ⟨_, _, ro5, rfl, hp5.no hfr6, (hfw.of_no.same hfr5).quiet hfr6, fun g hg => (hnw5 g hg).imp id (fun h => Nat.le_trans hfw.size h), es_newAt (goneO x) rfl hsz, fun g hg hp => ?_⟩
        have e := own_eq' hg
        have := hp5.lt g hp
        have := hf6.size
        omega
end Go.Proofs.YtdibeaipllmifaaGreat

/- The pit's shrink. Conditions: the pit lies in memory and is good; the order rests. -/
namespace Go.Proofs.YtdibeaipllmifaaGreat
open Go.RowKit

set_option maxHeartbeats 8000000 in
set_option maxRecDepth 20000 in
theorem shrink_any (bx : Nat) (bb : Nat → Nat) (v : Nat → Nat → Value) (ro : Nat → Nat) (s : Ref) (x : Ord) (cnt : Int) (w : World) (h : PitAt w bx bb v ro s) (hg : Good s) (hx : x ∈ s.L) :
    Calls Tryz.prog 61 #[.pointer (some ⟨bx, 0, none⟩), x.val, .int .i64 cnt] w (CmdPost w bx bb v s (s.L.map (reopen x.id cnt), [restsE x.id x.price cnt])) := by
  obtain ⟨⟨hb1, hb8⟩, _⟩ := hg.ord x hx
  obtain ⟨k, hk⟩ := Int.eq_ofNat_of_zero_le (by omega : 0 ≤ x.book - 1)
  have hbk : x.book = (k : Int) + 1 := by omega
  have hk8 : k < 8 := by omega
  have HK := hide (And.intro hbk hx)
  have HP := hide h
  have HG := hide hg
  clear h hg hx hb1 hb8 hk hbk
  unfold Ord.val
  go_enter Tryz.func61, Tryz.ntmps61
  go_wp2
  generalize hW3 : World.alloc w _ = W3
  have hf3 : Fr No w W3 := by rw [← hW3]; exact (Fr.refl _ _).alloc _
  have hq3 : W3.heap[w.heap.size]? = some (.cells #[.int .i64 x.id, .int .i64 x.trader, .int .i64 x.book, .int .i64 x.side, .int .i64 x.price, .int .i64 cnt] 76 (0, 0)) := by rw [← hW3]; exact heap_alloc_new w _
  generalize hQ : w.heap.size = Q at *
  have HN := hide hQ
  have hQ3 := lt_of_heap hq3
  clear hW3 hQ
  obtain ⟨q0, q1, q2, q3, q4, q5, _⟩ := box6 hq3
  have HB3 := hide (And.intro hf3 hq3)
  have hnb : ¬ BS (bb k) (v k) Q := fun e => by
    have := (unhide HP).lt Q (.inr ⟨k, hk8, e⟩)
    have := unhide HN
    omega
  have HNB := hide hnb
  clear hf3 hq3 hnb
  go_region_held3 (fun w' : World => w'.cell? ⟨Q, 0, none⟩ = some (.int .i64 x.id) ∧ w'.cell? ⟨Q, 2, none⟩ = some (.int .i64 x.book) ∧ w'.cell? ⟨Q, 5, none⟩ = some (.int .i64 cnt)) (go_keep)
    (first
      | (go_at_call 52; refine (pBook_any bx bb v ro s k hk8 x.book (unhide HK).1 _ ((unhide HP).no ((unhide HB3).1.quiet (by repeat (first | exact Fr.refl _ _ | refine Fr.drew ?_))))).mono ?_; rintro e w4 ⟨rfl, rfl⟩)
      | (go_at_call 98; refine (bReopen_any (bb k) bx _ _ (v k) (inBook s.L k) x.id cnt _ (((unhide HP).book k hk8).no ((unhide HB3).1.quiet (by repeat (first | exact Fr.refl _ _ | refine Fr.drew ?_)))) (inBook_uniq (unhide HG).ids k)).mono ?_; rintro e w5 ⟨rfl, v5, ht5⟩; have hf5 : Fr (BS (bb k) (v k)) W3 w5 := Fr.same ((Fr.refl _ _).drew) ht5.fr; have hq5 := hf5.heap (unhide HB3).2 (unhide HNB); obtain ⟨r0, r1, r2, r3, r4, r5, _⟩ := box6 hq5; have hQ5 := lt_of_heap hq5; have HT5 := hide (And.intro ht5 hf5); clear ht5 hf5 hq5))
  go_wp2_with fail
  refine (eRests_any ⟨x.id, x.trader, x.book, x.side, x.price, cnt⟩ w5).mono ?_
  rintro e w6 ⟨rfl, hf6⟩
  have HF6 := hide hf6
  clear hf6
  rw [show (restsE x.id x.price cnt).val = .agg #[.int .i64 4, .int .i64 x.id, .int .i64 0, .int .i64 x.price, .int .i64 cnt, .int .i64 0] from rfl]
  go_wp2
  go_ret
  obtain ⟨ht5, hf5⟩ := unhide HT5
  have hf6 := unhide HF6
  have hfw : Fr No w W3.drew := (unhide HB3).1.drew
  obtain ⟨ro5, hp5, hfr5, hnw5⟩ := ((unhide HP).no hfw).reopened (unhide HG).ids hk8 (unhide HK).2 (unhide HK).1 ht5
  have hfr6 := hf6.alloc (.cells #[.int .i64 4, .int .i64 x.id, .int .i64 0, .int .i64 x.price, .int .i64 cnt, .int .i64 0] 71)
  have hsz : w.heap.size ≤ w6.heap.size := Nat.le_trans hfw.size (Nat.le_trans hfr5.size hf6.size)
  refine ⟨_, _, ro5, rfl, hp5.no hfr6, (hfw.of_no.same hfr5).quiet hfr6, fun g hg => (hnw5 g hg).imp id (fun h => Nat.le_trans hfw.size h), es_newAt (restsE x.id x.price cnt) rfl hsz, fun g hg hp => ?_⟩
  have e := own_eq' hg
  have := hp5.lt g hp
  have := hf6.size
  omega
end Go.Proofs.YtdibeaipllmifaaGreat

/- The pit's replace. Conditions: the pit lies in memory and is good; the order rests; the new count is one. -/
namespace Go.Proofs.YtdibeaipllmifaaGreat
open Go.RowKit

theorem without_len (id : Int) (L : List Ord) : (without id L).length ≤ L.length := List.length_filter_le _ _
theorem book_len {s : Ref} (hg : Good s) (k j : Nat) (hj : j < 2) : (inBook s.L k j).length ≤ 200 := by
  have h1 := hg.cap ((k : Int) + 1)
  rw [inBook_len]
  match j, hj with
  | 0, _ => show restN s.L ((k : Int) + 1) 1 ≤ 200; omega
  | 1, _ => show restN s.L ((k : Int) + 1) 2 ≤ 200; omega

set_option maxHeartbeats 8000000 in
set_option maxRecDepth 20000 in
theorem replace_any (bx : Nat) (bb : Nat → Nat) (v : Nat → Nat → Value) (ro : Nat → Nat) (s : Ref) (x : Ord) (p cnt : Int) (w : World) (h : PitAt w bx bb v ro s) (hg : Good s) (hx : x ∈ s.L) (hcnt : cnt ≠ 0) :
    Calls Tryz.prog 62 #[.pointer (some ⟨bx, 0, none⟩), x.val, .int .i64 p, .int .i64 cnt] w (CmdPost w bx bb v s (without x.id s.L ++ [{ x with price := p, opn := cnt }], [goneO x, takenE x.id cnt, restsE x.id p cnt])) := by
  obtain ⟨⟨hb1, hb8⟩, hsd, _⟩ := hg.ord x hx
  obtain ⟨k, hk⟩ := Int.eq_ofNat_of_zero_le (by omega : 0 ≤ x.book - 1)
  have hbk : x.book = (k : Int) + 1 := by omega
  have hk8 : k < 8 := by omega
  have htr := hg.tr (k + 1)
  have HK := hide (And.intro hbk (And.intro hx (And.intro hsd (And.intro hcnt htr))))
  have HP := hide h
  have HG := hide hg
  clear h hg hx hb1 hb8 hk hbk hsd hcnt htr
  unfold Ord.val
  go_enter Tryz.func62, Tryz.ntmps62
  go_wp2_with fail
  generalize hW3 : World.alloc w _ = W3
  have hf3 : Fr No w W3 := by rw [← hW3]; exact (Fr.refl _ _).alloc _
  have hq3 : W3.heap[w.heap.size]? = some (.cells #[.int .i64 x.id, .int .i64 x.trader, .int .i64 x.book, .int .i64 x.side, .int .i64 x.price, .int .i64 x.opn] 76 (0, 0)) := by rw [← hW3]; exact heap_alloc_new w _
  generalize hQ : w.heap.size = Q at *
  have HN := hide hQ
  have hQ3 := lt_of_heap hq3
  clear hW3 hQ
  obtain ⟨q0, q1, q2, q3, q4, q5, _⟩ := box6 hq3
  have HB3 := hide (And.intro hf3 hq3)
  have hnb : ¬ BS (bb k) (v k) Q := fun e => by
    have := (unhide HP).lt Q (.inr ⟨k, hk8, e⟩)
    have := unhide HN
    omega
  have HNB := hide hnb
  clear hf3 hq3 hnb
  refine (pBook_any bx bb v ro s k hk8 x.book (unhide HK).1 W3 ((unhide HP).no (unhide HB3).1)).mono ?_
  rintro e w4 ⟨rfl, rfl⟩
  go_wp2_with (go_at_call 58; refine (bRemove_any (bb k) bx _ _ (v k) (inBook s.L k) x.id _ (((unhide HP).book k hk8).no (unhide HB3).1) (inBook_uniq (unhide HG).ids k)).mono ?_; rintro e w5 ⟨rfl, v5, ht5⟩; have hq5 := ht5.fr.heap (unhide HB3).2 (unhide HNB); obtain ⟨r0, r1, r2, r3, r4, r5, _⟩ := box6 hq5; have hQ5 := lt_of_heap hq5; have HT5 := hide (And.intro ht5 hq5); clear ht5 hq5)
  refine (eGone_any x w5).mono ?_
  rintro e w6 ⟨rfl, hf6⟩
  have hq6 := hf6.heap (unhide HT5).2 id
  have hQ6 := lt_of_heap hq6
  obtain ⟨u0, u1, u2, u3, u4, u5, huf⟩ := box6 hq6
  have f4 := huf 4
  have f5 := huf 5
  have HF6 := hide (And.intro hf6 hq6)
  clear hf6 hq6 huf
  rw [show (goneO x).val = .agg #[.int .i64 5, .int .i64 x.id, .int .i64 0, .int .i64 0, .int .i64 x.opn, .int .i64 0] from rfl]
  go_wp2_with fail
  obtain ⟨ht5, hq5⟩ := unhide HT5
  obtain ⟨hf6, hq6⟩ := unhide HF6
  have hfw : Fr No w w4 := (unhide HB3).1
  obtain ⟨ro5, hp5, hfr5, hnw5⟩ := ((unhide HP).no hfw).removed (unhide HG).ids hk8 (unhide HK).2.1 (unhide HK).1 ht5
  have hf67 : Fr (Is Q) w6 (((w6.setCell ⟨Q, 4, none⟩ (.int .i64 p)).setCell ⟨Q, 5, none⟩ (.int .i64 cnt)).alloc (.cells #[.int .i64 5, .int .i64 x.id, .int .i64 0, .int .i64 0, .int .i64 x.opn, .int .i64 0] 71)) :=
    (((Fr.refl _ _).setAt Q (.inr (Is.self Q)) 4 _).setAt Q (.inr (Is.self Q)) 5 _).alloc _
  have he7 : (((w6.setCell ⟨Q, 4, none⟩ (.int .i64 p)).setCell ⟨Q, 5, none⟩ (.int .i64 cnt)).alloc (.cells #[.int .i64 5, .int .i64 x.id, .int .i64 0, .int .i64 0, .int .i64 x.opn, .int .i64 0] 71)).heap[w6.heap.size]? = some (.cells (goneO x).cells.toArray 71 (0, 0)) := heap_newAt _ _ (by simp [World.setCell])
  generalize World.alloc (World.setCell (World.setCell w6 ⟨Q, 4, none⟩ _) ⟨Q, 5, none⟩ _) _ = W7 at hf67 he7 ⊢
  have hQp : ∀ g, PS bx bb (upd v k v5) g → g ≠ Q := fun g hg e => by
    have hN := unhide HN
    rcases hnw5 g hg with h1 | h1
    · have := (unhide HP).lt g h1; omega
    · omega
  have hp7 := (hp5.no hf6).fr hf67 (fun g hg e => hQp g hg e)
  have hlt5 := hp5.lt
  have hs56 := hf6.size
  have hs45 := hfr5.size
  have hs4 := hfw.size
  have hEl := lt_of_heap he7
  have hpb7 := hp7.book k hk8
  have htr : ({ s with L := without x.id s.L } : Ref).tr (k + 1) = false := (unhide HK).2.2.2.2
  rw [htr] at hpb7
  have hln : ∀ j, j < 2 → (inBook (without x.id s.L) k j).length < 1000 := fun j hj => by
    rw [inBook_without]
    have h1 := without_len x.id (inBook s.L k j)
    have h2 := book_len (unhide HG) k j hj
    omega
  have HA := hide (And.intro hp7 (And.intro hf67 (And.intro he7 (And.intro hnw5 (And.intro hfr5 (And.intro hf6 hlt5))))))
  refine (bEnter_gather (bb k) bx _ _ _ ⟨x.id, x.trader, x.book, x.side, p, cnt⟩ (unhide HK).2.2.1 (unhide HK).2.2.2.1 W7 hpb7 hln).mono ?_
  rintro e w8 ⟨r8, v8, rfl, hes8, ht8, ho8⟩
  obtain ⟨a8, c8, hr8, hc8, hn8, hs8⟩ := own_form hes8
  obtain ⟨g8, rfl⟩ : ∃ g8, a8 = some ⟨g8, 0, none⟩ := by
    cases a8 with
    | none => have := (hn8 rfl).1; simp at this
    | some ad => obtain ⟨g8, rfl, _⟩ := hs8 ad rfl; exact ⟨g8, rfl⟩
  subst hr8
  have hEn : ¬ BS (bb k) (upd v k v5 k) w6.heap.size := fun e => by
    have := hlt5 _ (.inr ⟨k, hk8, e⟩)
    omega
  have he8 := ht8.fr.heap he7 hEn
  have hout : Es w8 Q (.slice (some ⟨w6.heap.size, 0, none⟩) 1 1) [goneO x] :=
    ⟨by simp [Ev.len], .inr ⟨w6.heap.size, 1, _, rfl, by have := unhide HN; omega, he8, Nat.le_refl _, by decide, by simp [Ev.len], by simp [Ev.cells]⟩⟩
  have HB8 := hide (And.intro hes8 (And.intro ht8 (And.intro ho8 hout)))
  have hsQ : Q ≤ w8.heap.size := by have := ht8.fr.size; have := unhide HN; omega
  clear ht5 hq5 hf6 hq6 hfw hp5 hfr5 hnw5 hf67 he7 hQp hp7 hlt5 hpb7 htr hln hes8 ht8 ho8 hEn he8 hout hn8 hs8
  go_wp2_with (at_builtin; refine app_ev rfl (.tmp 26) (.tmp 29) rfl Q _ [goneO x] (unhide HB8).2.2.2 rfl ⟨g8, 0, none⟩ 2 c8 [takenE x.id cnt, restsE x.id p cnt] rfl rfl (by simp) (own_news (unhide HB8).1) (by simp) hsQ ?_; intro g9 c9 w9 hown9 hfr9 hat9 hlt9)
  go_ret
  obtain ⟨hp7, hf67, he7, hnw5, hfr5, hf6, hlt5⟩ := unhide HA
  obtain ⟨hes8, ht8, ho8, hout⟩ := unhide HB8
  have hfw : Fr No w w4 := (unhide HB3).1
  have hN := unhide HN
  have htr : ({ s with L := without x.id s.L } : Ref).tr (k + 1) = false := (unhide HK).2.2.2.2
  rw [← htr] at ht8
  obtain ⟨ro8, hp8, hfr8, hnw8⟩ := hp7.entered hk8 (x := ⟨x.id, x.trader, x.book, x.side, p, cnt⟩) (unhide HK).1 ht8
  have hs67 := hf67.size
  have hs8 := ht8.fr.size
  have hSO : ∀ g, OwnS (.slice (some ⟨w6.heap.size, 0, none⟩) 1 1) g → g = w6.heap.size := fun g hg => (own_eq' hg).symm
  have hE8 : ¬ PS bx bb (upd (upd v k v5) k v8) w6.heap.size := fun e => by
    rcases hnw8 _ e with h1 | h1
    · have := hlt5 _ h1; omega
    · omega
  have hp9 := hp8.fr hfr9 (fun g hg e => hE8 (hSO g e ▸ hg))
  have hfa : Fr (PS bx bb v) w W7 := by
    refine ((hfw.of_no.same hfr5).quiet hf6).trans hf67 (fun g hg e => ?_)
    have : g = Q := e
    omega
  have hfb : Fr (PS bx bb v) w w8 := hfa.trans hfr8 (fun g hg e => (hnw5 g e).elim id (fun h => by omega))
  have hfc : Fr (PS bx bb v) w w9 := hfb.trans hfr9 (fun g hg e => by have := hSO g e; omega)
  have hnw : ∀ g, PS bx bb (upd (upd v k v5) k v8) g → PS bx bb v g ∨ w.heap.size ≤ g := fun g hg => by
    rcases hnw8 g hg with h1 | h1
    · exact (hnw5 g h1).imp id (fun h => by omega)
    · right; omega
  refine ⟨_, _, ro8, rfl, hp9, hfc, hnw, by rw [hN]; exact hown9, fun g hg hp => ?_⟩
  have e := own_eq' hg
  subst e
  rcases hat9 with h1 | h1
  · exact hE8 (hSO _ h1 ▸ hp)
  · have := hp8.lt _ hp
    omega
end Go.Proofs.YtdibeaipllmifaaGreat
