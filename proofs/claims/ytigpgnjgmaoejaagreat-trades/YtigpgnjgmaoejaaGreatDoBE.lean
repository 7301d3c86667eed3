/- A desk's commands Cancel and shrink. Conditions: the pit lies in memory and is as it should be. -/
import Derived.Test.YtigpgnjgmaoejaaGreatDoAN
import Derived.Test.YtigpgnjgmaoejaaGreatDoD
import Derived.Test.YtigpgnjgmaoejaaGreatOpDE
import Derived.Test.YtigpgnjgmaoejaaGreatPitD
namespace Go.Proofs.YtigpgnjgmaoejaaGreat
open Go.RowKit

set_option maxHeartbeats 8000000 in
set_option maxRecDepth 20000 in
theorem dCancel_any (bx : Nat) (bb : Nat → Nat) (v : Nat → Nat → Value) (ro : Nat → Nat) (s : St) (c : Cmd) (w : World) (h : PitAt w bx bb v ro s) (hg : WF s) :
    Calls Tryz.prog 45 #[.pointer (some ⟨bx, 0, none⟩), c.val] w (CmdPost w bx bb v (sCancel s c)) := by
  have HP := hide h
  have HG := hide hg
  obtain ⟨X, hX⟩ : ∃ X, X = sCancel s c := ⟨_, rfl⟩
  rw [← hX]
  have HX := hide hX
  clear h hg hX
  unfold Cmd.val
  go_enter Tryz.func45, Tryz.ntmps45
  go_wp2_with fail
  generalize hW : World.alloc w _ = W0
  have hB0 : Boxed w W0 w.heap.size c := newAt hW rfl
  generalize hN : w.heap.size = N at *
  have HN := hide hN
  clear hW hN
  have hN1 := hB0.lt
  obtain ⟨y0, y1, y2, y3, y4, y5, y6, y7, _⟩ := box8 hB0.box
  have HB0 := hide hB0
  clear hB0
  have HXX : Hid (X = if (inB c.id 1 1000000000 && inB c.trader 1 1000) = false then (s, [refusedE c.id 2])
    else match getOf s c.trader c.id with
    | none => (s, [refusedE c.id 4])
    | some x => (s.rem (bk x.book) x.id, [goneO x])) := unhide HX
  generalize hb1 : inB c.id 1 1000000000 = b1 at *
  generalize hb2 : inB c.trader 1 1000 = b2 at *
  have HBB := hide (And.intro hb1 hb2)
  clear hb1 hb2
  refine (isId_any c.id W0).mono ?_
  rintro e w1 ⟨rfl, rfl⟩
  rw [(unhide HBB).1]
  cases b1 with
  | false =>
    have HE : Hid (X = (s, [refusedE c.id 2])) := by show _ = _; rw [unhide HXX]; rfl
    go_wp2_with (go_at_call 50; refine (pRefused_any _ _ _).mono ?_; rintro e w2 ⟨r2, rfl, he2, hf2⟩)
    go_ret
    rw [unhide HE]
    exact CmdPost.said (unhide HP) ((unhide HB0).fr.quiet hf2) (es_more (unhide HB0).fr he2)
  | true =>
    cases b2 with
    | false =>
      have HE : Hid (X = (s, [refusedE c.id 2])) := by show _ = _; rw [unhide HXX]; rfl
      go_wp2_with (first
        | (go_at_call 75; refine (isTrader_any c.trader _).mono ?_; rintro e w2 ⟨rfl, rfl⟩; rw [(unhide HBB).2])
        | (go_at_call 50; refine (pRefused_any _ _ _).mono ?_; rintro e w2 ⟨r2, rfl, he2, hf2⟩))
      go_ret
      rw [unhide HE]
      exact CmdPost.said (unhide HP) ((unhide HB0).fr.quiet hf2) (es_more (unhide HB0).fr he2)
    | true =>
      go_wp2_with (go_at_call 75; refine (isTrader_any c.trader _).mono ?_; rintro e w2 ⟨rfl, rfl⟩; rw [(unhide HBB).2])
      refine (dRestingOf_any bx bb v ro s c.trader c.id _ ((unhide HP).no (unhide HB0).fr)).mono ?_
      rintro e w2 ⟨rfl, hf2⟩
      have hB2 := (unhide HB0).no hf2
      have hN2 := hB2.lt
      obtain ⟨z0, z1, z2, z3, z4, z5, z6, z7, _⟩ := box8 hB2.box
      have HB2 := hide hB2
      clear hB2 hf2 y0 y1 y2 y3 y4 y5 y6 y7
      cases hro : getOf s c.trader c.id with
      | none =>
        have HE : Hid (X = (s, [refusedE c.id 4])) := by show _ = _; rw [unhide HXX, hro]; rfl
        clear hro
        rw [show ordR none = .tuple #[.agg #[.int .i64 0, .int .i64 0, .int .i64 0, .int .i64 0, .int .i64 0, .int .i64 0], .bool false] from rfl]
        go_wp2_with (go_at_call 50; refine (pRefused_any _ _ _).mono ?_; rintro e w3 ⟨r3, rfl, he3, hf3⟩)
        go_ret
        rw [unhide HE]
        have hfa := (unhide HB2).fr.alloc (.cells #[.int .i64 0, .int .i64 0, .int .i64 0, .int .i64 0, .int .i64 0, .int .i64 0] 95)
        exact CmdPost.said (unhide HP) (hfa.quiet hf3) (es_more hfa he3)
      | some x =>
        obtain ⟨hx3, hx2, hk8, hbk, -, j, hj, hx1⟩ := getOf_in (unhide HG) hro
        have HE : Hid (X = (s.rem (bk x.book) x.id, [goneO x])) := by show _ = _; rw [unhide HXX, hro]; rfl
        generalize hke : bk x.book = k at *
        have HK := hide hbk
        clear hro hx1 hx2 hx3 hbk hj hke
        rw [show ordR (some x) = .tuple #[.agg #[.int .i64 x.id, .int .i64 x.trader, .int .i64 x.book, .int .i64 x.side, .int .i64 x.price, .int .i64 x.opn], .bool true] from rfl]
        go_wp2
        generalize hW3 : World.alloc w2 _ = W3
        have hf3 : Fr No w2 W3 := by rw [← hW3]; exact (Fr.refl _ _).alloc _
        have hq3 : W3.heap[w2.heap.size]? = some (.cells #[.int .i64 x.id, .int .i64 x.trader, .int .i64 x.book, .int .i64 x.side, .int .i64 x.price, .int .i64 x.opn] 95 (0, 0)) := by rw [← hW3]; exact heap_alloc_new w2 _
        generalize hQ : w2.heap.size = Q at *
        have hQw : N < Q := by omega
        have hB3 := (unhide HB2).no hf3
        have hQ3 := lt_of_heap hq3
        clear hW3 hf3 hQ z0 z1 z2 z3 z4 z5 z6 z7
        obtain ⟨q0, q1, q2, q3, q4, q5, _⟩ := box6 hq3
        have HB3 := hide (And.intro hB3 hq3)
        have hnb : ¬ BS (bb k) (v k) Q := fun e => by
          have := (unhide HP).lt Q (.inr ⟨k, hk8, e⟩)
          have := unhide HN
          omega
        have HNB := hide hnb
        clear hB3 hq3 hnb
        go_region_held3 (fun w' : World => w'.cell? ⟨Q, 0, none⟩ = some (.int .i64 x.id) ∧ w'.cell? ⟨Q, 2, none⟩ = some (.int .i64 x.book)) (go_keep)
          (first
            | (go_at_call 28; refine (dBook_any bx bb v ro s k hk8 x.book (unhide HK) _ ((unhide HP).no ((unhide HB3).1.fr.quiet (by repeat (first | exact Fr.refl _ _ | refine Fr.drew ?_))))).mono ?_; rintro e w4 ⟨rfl, rfl⟩)
            | (go_at_call 94; refine (bRemove_any (bb k) bx _ _ (v k) (s.M k) x.id _ (((unhide HP).book k hk8).no ((unhide HB3).1.fr.quiet (by repeat (first | exact Fr.refl _ _ | refine Fr.drew ?_)))) ((unhide HG).book k hk8).ids).mono ?_; rintro e w5 ⟨rfl, v5, ht5⟩; have hf5 : Fr (BS (bb k) (v k)) W3 w5 := Fr.same ((Fr.refl _ _).drew) ht5.fr; have hq5 := hf5.heap (unhide HB3).2 (unhide HNB); obtain ⟨r0, r1, r2, r3, r4, r5, _⟩ := box6 hq5; have hQ5 := lt_of_heap hq5; have HT5 := hide (And.intro ht5 hf5); clear ht5 hf5 hq5))
        go_wp2_with fail
        refine (eGone_any x w5).mono ?_
        rintro e w6 ⟨rfl, hf6⟩
        have HF6 := hide hf6
        clear hf6
        rw [show (goneO x).val = .agg #[.int .i64 5, .int .i64 x.id, .int .i64 0, .int .i64 0, .int .i64 x.opn, .int .i64 0] from rfl]
        go_wp2
        go_ret
        obtain ⟨ht5, hf5⟩ := unhide HT5
        have hf6 := unhide HF6
        have hfw : Fr No w W3.drew := (unhide HB3).1.fr.drew
        obtain ⟨ro5, hto5⟩ := ((unhide HP).no hfw).to hk8 ht5
        have hp5 := hto5.pit
        have hfr5 := hto5.fr
        have hfr6 := hf6.alloc (.cells #[.int .i64 5, .int .i64 x.id, .int .i64 0, .int .i64 0, .int .i64 x.opn, .int .i64 0] 42)
        have hsz : w.heap.size ≤ w6.heap.size := Nat.le_trans hfw.size (Nat.le_trans hfr5.size hf6.size)
        rw [unhide HE]
        refine ⟨_, _, ro5, rfl, (hto5.after hfw).no hfr6, es_newAt (goneO x) rfl hsz, fun g hg hp => ?_⟩
        have e := own_eq' hg
        have := hp5.lt g hp
        have := hf6.size
        omega
set_option maxHeartbeats 8000000 in
set_option maxRecDepth 20000 in
theorem dShrink_any (bx : Nat) (bb : Nat → Nat) (v : Nat → Nat → Value) (ro : Nat → Nat) (s : St) (x : Ord) (cnt : Int) (w : World) (h : PitAt w bx bb v ro s) (hg : WF s) (k : Nat) (hk8 : k < 8) (hbk : x.book = (k : Int) + 1) :
    Calls Tryz.prog 97 #[.pointer (some ⟨bx, 0, none⟩), x.val, .int .i64 cnt] w (CmdPost w bx bb v (s.reop k x.id cnt, [restsE x.id x.price cnt])) := by
  have HK := hide hbk
  have HP := hide h
  have HG := hide hg
  clear h hg hbk
  unfold Ord.val
  go_enter Tryz.func97, Tryz.ntmps97
  go_wp2
  generalize hW3 : World.alloc w _ = W3
  have hf3 : Fr No w W3 := by rw [← hW3]; exact (Fr.refl _ _).alloc _
  have hq3 : W3.heap[w.heap.size]? = some (.cells #[.int .i64 x.id, .int .i64 x.trader, .int .i64 x.book, .int .i64 x.side, .int .i64 x.price, .int .i64 cnt] 95 (0, 0)) := by rw [← hW3]; exact heap_alloc_new w _
  generalize hQ : w.heap.size = Q at *
  have HN := hide hQ
  have hQ3 := lt_of_heap hq3
  clear hW3 hQ
  obtain ⟨q0, q1, q2, q3, q4, q5, _⟩ := box6 hq3
  have HB3 := hide (And.intro hf3 hq3)
  have hnb : ¬ BS (bb k) (v k) Q := fun e => by
    have := (unhide HP).lt Q (.inr ⟨k, hk8, e⟩)
    have := unhide HN
    omega
  have HNB := hide hnb
  clear hf3 hq3 hnb
  go_region_held3 (fun w' : World => w'.cell? ⟨Q, 0, none⟩ = some (.int .i64 x.id) ∧ w'.cell? ⟨Q, 2, none⟩ = some (.int .i64 x.book) ∧ w'.cell? ⟨Q, 5, none⟩ = some (.int .i64 cnt)) (go_keep)
    (first
      | (go_at_call 28; refine (dBook_any bx bb v ro s k hk8 x.book (unhide HK) _ ((unhide HP).no ((unhide HB3).1.quiet (by repeat (first | exact Fr.refl _ _ | refine Fr.drew ?_))))).mono ?_; rintro e w4 ⟨rfl, rfl⟩)
      | (go_at_call 138; refine (bReopen_any (bb k) bx _ _ (v k) (s.M k) x.id cnt _ (((unhide HP).book k hk8).no ((unhide HB3).1.quiet (by repeat (first | exact Fr.refl _ _ | refine Fr.drew ?_)))) ((unhide HG).book k hk8).ids).mono ?_; rintro e w5 ⟨rfl, v5, ht5⟩; have hf5 : Fr (BS (bb k) (v k)) W3 w5 := Fr.same ((Fr.refl _ _).drew) ht5.fr; have hq5 := hf5.heap (unhide HB3).2 (unhide HNB); obtain ⟨r0, r1, r2, r3, r4, r5, _⟩ := box6 hq5; have hQ5 := lt_of_heap hq5; have HT5 := hide (And.intro ht5 hf5); clear ht5 hf5 hq5))
  go_wp2_with fail
  refine (eRests_any ⟨x.id, x.trader, x.book, x.side, x.price, cnt⟩ w5).mono ?_
  rintro e w6 ⟨rfl, hf6⟩
  have HF6 := hide hf6
  clear hf6
  rw [show (restsE x.id x.price cnt).val = .agg #[.int .i64 4, .int .i64 x.id, .int .i64 0, .int .i64 x.price, .int .i64 cnt, .int .i64 0] from rfl]
  go_wp2
  go_ret
  obtain ⟨ht5, hf5⟩ := unhide HT5
  have hf6 := unhide HF6
  have hfw : Fr No w W3.drew := (unhide HB3).1.drew
  obtain ⟨ro5, hto5⟩ := ((unhide HP).no hfw).to hk8 ht5
  have hp5 := hto5.pit
  have hfr5 := hto5.fr
  have hfr6 := hf6.alloc (.cells #[.int .i64 4, .int .i64 x.id, .int .i64 0, .int .i64 x.price, .int .i64 cnt, .int .i64 0] 42)
  have hsz : w.heap.size ≤ w6.heap.size := Nat.le_trans hfw.size (Nat.le_trans hfr5.size hf6.size)
  refine ⟨_, _, ro5, rfl, (hto5.after hfw).no hfr6, es_newAt (restsE x.id x.price cnt) rfl hsz, fun g hg hp => ?_⟩
  have e := own_eq' hg
  have := hp5.lt g hp
  have := hf6.size
  omega
end Go.Proofs.YtigpgnjgmaoejaaGreat

/- A desk's replace and Change. Conditions: the pit lies in memory and is as it should be. -/
namespace Go.Proofs.YtigpgnjgmaoejaaGreat
open Go.RowKit

theorem enterB_evs (tr : Bool) (M : Nat → List Ord) (x : Ord) (kind : Int) : (enterB tr M x kind).2.2.length ≤ (M (fj x.side)).length + 2 := by
  have h : (meetB tr M x kind).2.2.2.length ≤ (M (fj x.side)).length := by
    cases tr with
    | true =>
      have := meetP_evs (rc := rch kind x.side x.price) (x := x) (L := M (fj x.side)) (t := 0) (o := x.opn) (E := [])
      simpa [meetB] using this
    | false => simp [meetB]
  unfold enterB
  simp only
  split
  · simp; omega
  · split <;> simp <;> omega

set_option maxHeartbeats 8000000 in
set_option maxRecDepth 20000 in
theorem dReplace_any (bx : Nat) (bb : Nat → Nat) (v : Nat → Nat → Value) (ro : Nat → Nat) (s : St) (x : Ord) (p cnt : Int) (w : World) (h : PitAt w bx bb v ro s) (hg : WF s) (k : Nat) (hk8 : k < 8) (hbk : x.book = (k : Int) + 1) (hsd : x.side = 1 ∨ x.side = 2) (hcnt : 1 ≤ cnt ∧ cnt ≤ 1000000) :
    Calls Tryz.prog 98 #[.pointer (some ⟨bx, 0, none⟩), x.val, .int .i64 p, .int .i64 cnt] w (CmdPost w bx bb v (s.replace x p cnt)) := by
  have hke : bk x.book = k := bk_of hbk
  have HRE : Hid (s.replace x p cnt = (((s.rem k x.id).enter k ⟨x.id, x.trader, x.book, x.side, p, cnt⟩ 1).1, goneO x :: ((s.rem k x.id).enter k ⟨x.id, x.trader, x.book, x.side, p, cnt⟩ 1).2)) := by
    show _ = _
    unfold St.replace
    rw [hke]
  have hlE : ((s.rem k x.id).enter k ⟨x.id, x.trader, x.book, x.side, p, cnt⟩ 1).2.length ≤ 300 := by
    have h1 := enterB_evs ((s.rem k x.id).tr k) ((s.rem k x.id).M k) ⟨x.id, x.trader, x.book, x.side, p, cnt⟩ 1
    have h2 := ((rem_keeps hg k x.id).wf.book k hk8).len (fj_lt x.side)
    have e : ((s.rem k x.id).enter k ⟨x.id, x.trader, x.book, x.side, p, cnt⟩ 1).2 = (enterB ((s.rem k x.id).tr k) ((s.rem k x.id).M k) ⟨x.id, x.trader, x.book, x.side, p, cnt⟩ 1).2.2 := rfl
    rw [e]
    simp only at h1
    omega
  generalize hXX : (s.rem k x.id).enter k ⟨x.id, x.trader, x.book, x.side, p, cnt⟩ 1 = XX at *
  have HXX := hide hXX
  have HLE := hide hlE
  have HK := hide (And.intro hbk (And.intro hsd hcnt))
  have HP := hide h
  have HG := hide hg
  clear h hg hbk hsd hcnt hke hXX hlE
  unfold Ord.val
  go_enter Tryz.func98, Tryz.ntmps98
  go_wp2_with fail
  generalize hW3 : World.alloc w _ = W3
  have hf3 : Fr No w W3 := by rw [← hW3]; exact (Fr.refl _ _).alloc _
  have hq3 : W3.heap[w.heap.size]? = some (.cells #[.int .i64 x.id, .int .i64 x.trader, .int .i64 x.book, .int .i64 x.side, .int .i64 x.price, .int .i64 x.opn] 95 (0, 0)) := by rw [← hW3]; exact heap_alloc_new w _
  generalize hQ : w.heap.size = Q at *
  have HN := hide hQ
  have hQ3 := lt_of_heap hq3
  clear hW3 hQ
  obtain ⟨q0, q1, q2, q3, q4, q5, _⟩ := box6 hq3
  have HB3 := hide (And.intro hf3 hq3)
  have hnb : ¬ BS (bb k) (v k) Q := fun e => by
    have := (unhide HP).lt Q (.inr ⟨k, hk8, e⟩)
    have := unhide HN
    omega
  have HNB := hide hnb
  clear hf3 hq3 hnb
  refine (dBook_any bx bb v ro s k hk8 x.book (unhide HK).1 W3 ((unhide HP).no (unhide HB3).1)).mono ?_
  rintro e w4 ⟨rfl, rfl⟩
  go_wp2_with (go_at_call 94; refine (bRemove_any (bb k) bx _ _ (v k) (s.M k) x.id _ (((unhide HP).book k hk8).no (unhide HB3).1) ((unhide HG).book k hk8).ids).mono ?_; rintro e w5 ⟨rfl, v5, ht5⟩; have hq5 := ht5.fr.heap (unhide HB3).2 (unhide HNB); obtain ⟨r0, r1, r2, r3, r4, r5, _⟩ := box6 hq5; have hQ5 := lt_of_heap hq5; have HT5 := hide (And.intro ht5 hq5); clear ht5 hq5)
  refine (eGone_any x w5).mono ?_
  rintro e w6 ⟨rfl, hf6⟩
  have hq6 := hf6.heap (unhide HT5).2 id
  have hQ6 := lt_of_heap hq6
  obtain ⟨u0, u1, u2, u3, u4, u5, huf⟩ := box6 hq6
  have f4 := huf 4
  have f5 := huf 5
  have HF6 := hide (And.intro hf6 hq6)
  clear hf6 hq6 huf
  rw [show (goneO x).val = .agg #[.int .i64 5, .int .i64 x.id, .int .i64 0, .int .i64 0, .int .i64 x.opn, .int .i64 0] from rfl]
  go_wp2_with fail
  obtain ⟨ht5, hq5⟩ := unhide HT5
  obtain ⟨hf6, hq6⟩ := unhide HF6
  have hfw : Fr No w w4 := (unhide HB3).1
  obtain ⟨ro5, hto5⟩ := ((unhide HP).no hfw).to hk8 ht5
  obtain ⟨hp5, hfr5, hnw5⟩ := hto5
  rw [show ({ s with M := upd s.M k fun j => without x.id (s.M k j) } : St) = s.rem k x.id from rfl] at hp5
  have hf67 : Fr (Is Q) w6 (((w6.setCell ⟨Q, 4, none⟩ (.int .i64 p)).setCell ⟨Q, 5, none⟩ (.int .i64 cnt)).alloc (.cells #[.int .i64 5, .int .i64 x.id, .int .i64 0, .int .i64 0, .int .i64 x.opn, .int .i64 0] 42)) :=
    (((Fr.refl _ _).setAt Q (.inr (Is.self Q)) 4 _).setAt Q (.inr (Is.self Q)) 5 _).alloc _
  have he7 : (((w6.setCell ⟨Q, 4, none⟩ (.int .i64 p)).setCell ⟨Q, 5, none⟩ (.int .i64 cnt)).alloc (.cells #[.int .i64 5, .int .i64 x.id, .int .i64 0, .int .i64 0, .int .i64 x.opn, .int .i64 0] 42)).heap[w6.heap.size]? = some (.cells (goneO x).cells.toArray 42 (0, 0)) := heap_newAt _ _ (by simp [World.setCell])
  generalize World.alloc (World.setCell (World.setCell w6 ⟨Q, 4, none⟩ _) ⟨Q, 5, none⟩ _) _ = W7 at hf67 he7 ⊢
  have hQp : ∀ g, PS bx bb (upd v k v5) g → g ≠ Q := fun g hg e => by
    have hN := unhide HN
    rcases hnw5 g hg with h1 | h1
    · have := (unhide HP).lt g h1; omega
    · omega
  have hp7 := (hp5.no hf6).fr hf67 (fun g hg e => hQp g hg e)
  have hlt5 := hp5.lt
  have hs56 := hf6.size
  have hs45 := hfr5.size
  have hs4 := hfw.size
  have hEl := lt_of_heap he7
  have HA := hide (And.intro hp7 (And.intro hf67 (And.intro he7 (And.intro hnw5 (And.intro hfr5 (And.intro hf6 hlt5))))))
  refine (pEnter_any bx bb _ ro5 _ k hk8 ⟨x.id, x.trader, x.book, x.side, p, cnt⟩ 1 (unhide HK).2.1 (unhide HK).2.2 W7 hp7 (rem_keeps (unhide HG) k x.id).wf).mono ?_
  rintro e w8 ⟨r8, v8, ro8, rfl, hc8t⟩
  rw [unhide HXX] at hc8t
  have hes8 := hc8t.evs
  obtain ⟨a8, c8, hr8, hc8, hn8, hs8⟩ := own_form hes8
  subst hr8
  have hEn : ¬ PS bx bb (upd v k v5) w6.heap.size := fun e => by
    have := hlt5 _ e
    omega
  have he8 := hc8t.to.fr.heap he7 hEn
  have hout : Es w8 Q (.slice (some ⟨w6.heap.size, 0, none⟩) 1 1) [goneO x] :=
    ⟨by simp [Ev.len], .inr ⟨w6.heap.size, 1, _, rfl, by have := unhide HN; omega, he8, Nat.le_refl _, by decide, by simp [Ev.len], by simp [Ev.cells]⟩⟩
  have HB8 := hide (And.intro hes8 (And.intro hc8t hout))
  have hsQ : Q ≤ w8.heap.size := by have := hc8t.to.fr.size; have := unhide HN; omega
  clear ht5 hq5 hf6 hq6 hfw hp5 hfr5 hnw5 hf67 he7 hQp hp7 hlt5 hes8 hc8t hEn he8 hout hn8 hs8
  go_wp2_with (at_builtin; refine app_evs rfl (.tmp 26) (.tmp 29) rfl Q _ [goneO x] (unhide HB8).2.2 (by simp) rfl _ _ XX.2 (unhide HB8).1 rfl (by have := unhide HLE; simp; omega) hsQ ?_; intro g9 c9 w9 hown9 hfr9 hat9 hlt9)
  go_ret
  obtain ⟨hp7, hf67, he7, hnw5, hfr5, hf6, hlt5⟩ := unhide HA
  obtain ⟨hes8, hc8t, hout⟩ := unhide HB8
  have hfw : Fr No w w4 := (unhide HB3).1
  have hN := unhide HN
  obtain ⟨⟨hp8, hfr8, hnw8⟩, _, ho8⟩ := hc8t
  have hs67 := hf67.size
  have hs8 := hfr8.size
  have hSO : ∀ g, OwnS (.slice (some ⟨w6.heap.size, 0, none⟩) 1 1) g → g = w6.heap.size := fun g hg => (own_eq' hg).symm
  have hE8 : ¬ PS bx bb v8 w6.heap.size := fun e => by
    rcases hnw8 _ e with h1 | h1
    · have := hlt5 _ h1; omega
    · omega
  have hp9 := hp8.fr hfr9 (fun g hg e => hE8 (hSO g e ▸ hg))
  have hfa : Fr (PS bx bb v) w W7 := by
    refine ((hfw.of_no.same hfr5).quiet hf6).trans hf67 (fun g hg e => ?_)
    have : g = Q := e
    omega
  have hfb : Fr (PS bx bb v) w w8 := hfa.trans hfr8 (fun g hg e => (hnw5 g e).elim id (fun h => by omega))
  have hfc : Fr (PS bx bb v) w w9 := hfb.trans hfr9 (fun g hg e => by have := hSO g e; omega)
  have hnw : ∀ g, PS bx bb v8 g → PS bx bb v g ∨ w.heap.size ≤ g := fun g hg => by
    rcases hnw8 g hg with h1 | h1
    · exact (hnw5 g h1).imp id (fun h => by omega)
    · right; omega
  rw [unhide HRE]
  refine ⟨_, _, ro8, rfl, ⟨hp9, hfc, hnw⟩, by rw [hN]; exact hown9, fun g hg hp => ?_⟩
  have e := own_eq' hg
  subst e
  rcases hat9 with h1 | h1
  · exact hE8 (hSO _ h1 ▸ hp)
  · have := hp8.lt _ hp
    omega
set_option maxHeartbeats 8000000 in
set_option maxRecDepth 20000 in
theorem dChange_any (bx : Nat) (bb : Nat → Nat) (v : Nat → Nat → Value) (ro : Nat → Nat) (s : St) (c : Cmd) (w : World) (h : PitAt w bx bb v ro s) (hg : WF s) :
    Calls Tryz.prog 46 #[.pointer (some ⟨bx, 0, none⟩), c.val] w (CmdPost w bx bb v (sChange s c)) := by
  have HP := hide h
  have HG := hide hg
  obtain ⟨X, hX⟩ : ∃ X, X = sChange s c := ⟨_, rfl⟩
  rw [← hX]
  have HX := hide hX
  clear h hg hX
  unfold Cmd.val
  go_enter Tryz.func46, Tryz.ntmps46
  go_wp2_with fail
  generalize hW : World.alloc w _ = W0
  have hB0 : Boxed w W0 w.heap.size c := newAt hW rfl
  generalize hN : w.heap.size = N at *
  clear hW hN
  refine (changeNumbers_any c W0).mono ?_
  rintro e w1 ⟨rfl, hf1⟩
  rw [show (inB c.id 1 1000000000 && inB c.trader 1 1000 && (inB c.price 1 1000000 && inB c.count 1 1000000)) = chOk c from rfl]
  have hB1 := hB0.no hf1
  have hN1 := hB1.lt
  obtain ⟨y0, y1, y2, y3, y4, y5, y6, y7, _⟩ := box8 hB1.box
  have HB1 := hide hB1
  clear hB0 hf1 hB1
  cases hok : chOk c with
  | false =>
    have HE : Hid (X = (s, [refusedE c.id 2])) := by show _ = _; rw [unhide HX]; simp [sChange, hok]
    clear hok
    go_wp2_with (go_at_call 50; refine (pRefused_any _ _ _).mono ?_; rintro e w2 ⟨r2, rfl, he2, hf2⟩)
    go_ret
    rw [unhide HE]
    exact CmdPost.said (unhide HP) ((unhide HB1).fr.quiet hf2) (es_more (unhide HB1).fr he2)
  | true =>
    have HCN := hide (chOk_all hok).2
    have HXX : Hid (X = match getOf s c.trader c.id with
      | none => (s, [refusedE c.id 4])
      | some x => if c.price = x.price ∧ c.count ≤ x.opn then (s.reop (bk x.book) x.id c.count, [restsE x.id x.price c.count]) else s.replace x c.price c.count) := by
      show _ = _
      rw [unhide HX]
      unfold sChange
      rw [if_neg (by rw [hok]; decide)]
      rfl
    clear hok
    go_wp2_with fail
    refine (dRestingOf_any bx bb v ro s c.trader c.id _ ((unhide HP).no (unhide HB1).fr)).mono ?_
    rintro e w2 ⟨rfl, hf2⟩
    have hB2 := (unhide HB1).no hf2
    have hN2 := hB2.lt
    obtain ⟨z0, z1, z2, z3, z4, z5, z6, z7, _⟩ := box8 hB2.box
    have HB2 := hide hB2
    clear hB2 hf2 y0 y1 y2 y3 y4 y5 y6 y7
    cases hro : getOf s c.trader c.id with
    | none =>
      have HE : Hid (X = (s, [refusedE c.id 4])) := by show _ = _; rw [unhide HXX, hro]
      clear hro
      rw [show ordR none = .tuple #[.agg #[.int .i64 0, .int .i64 0, .int .i64 0, .int .i64 0, .int .i64 0, .int .i64 0], .bool false] from rfl]
      go_wp2_with (go_at_call 50; refine (pRefused_any _ _ _).mono ?_; rintro e w3 ⟨r3, rfl, he3, hf3⟩)
      go_ret
      rw [unhide HE]
      have hfa := (unhide HB2).fr.alloc (.cells #[.int .i64 0, .int .i64 0, .int .i64 0, .int .i64 0, .int .i64 0, .int .i64 0] 95)
      exact CmdPost.said (unhide HP) (hfa.quiet hf3) (es_more hfa he3)
    | some x =>
      obtain ⟨hx3, hx2, hk8, hbk, -, j, hj, hx1⟩ := getOf_in (unhide HG) hro
      have hsd : x.side = 1 ∨ x.side = 2 := by
        have := (((unhide HG).book _ hk8).ord j hj x hx1).2.2
        omega
      have hx4 := unhide HXX
      rw [hro] at hx4
      simp only at hx4
      have hfa := (unhide HB2).fr.alloc (.cells #[.int .i64 x.id, .int .i64 x.trader, .int .i64 x.book, .int .i64 x.side, .int .i64 x.price, .int .i64 x.opn] 95)
      have HA := hide (And.intro hfa (And.intro hk8 (And.intro hbk hsd)))
      by_cases hpc : c.price = x.price ∧ c.count ≤ x.opn
      · rw [if_pos hpc] at hx4
        have HE := hide hx4
        have e1 : (c.price == x.price) = true := by simpa using hpc.1
        have e2 : decide (c.count ≤ x.opn) = true := by simpa using hpc.2
        clear hro hx1 hx2 hx3 hx4 hfa hpc hk8 hbk hsd hj
        rw [show ordR (some x) = .tuple #[.agg #[.int .i64 x.id, .int .i64 x.trader, .int .i64 x.book, .int .i64 x.side, .int .i64 x.price, .int .i64 x.opn], .bool true] from rfl]
        go_wp2_with (go_at_call 97; refine (dShrink_any bx bb v ro s x c.count _ ((unhide HP).no (unhide HA).1) (unhide HG) _ (unhide HA).2.1 (unhide HA).2.2.1).mono ?_; rintro e w3 ⟨r3, v3, ro3, rfl, ht3⟩; have HT3 := hide ht3; clear ht3)
        go_ret
        rw [unhide HE]
        exact CmdPost.after (unhide HA).1 ⟨_, v3, ro3, rfl, unhide HT3⟩
      · rw [if_neg hpc] at hx4
        have HE := hide hx4
        cases e1 : (c.price == x.price) with
        | false =>
          clear hro hx1 hx2 hx3 hx4 hfa hpc hk8 hbk hsd hj
          rw [show ordR (some x) = .tuple #[.agg #[.int .i64 x.id, .int .i64 x.trader, .int .i64 x.book, .int .i64 x.side, .int .i64 x.price, .int .i64 x.opn], .bool true] from rfl]
          go_wp2_with (go_at_call 98; refine (dReplace_any bx bb v ro s x c.price c.count _ ((unhide HP).no (unhide HA).1) (unhide HG) _ (unhide HA).2.1 (unhide HA).2.2.1 (unhide HA).2.2.2 (unhide HCN)).mono ?_; rintro e w3 ⟨r3, v3, ro3, rfl, ht3⟩; have HT3 := hide ht3; clear ht3)
          go_ret
          rw [unhide HE]
          exact CmdPost.after (unhide HA).1 ⟨_, v3, ro3, rfl, unhide HT3⟩
        | true =>
          have e2 : decide (c.count ≤ x.opn) = false := by
            have : c.price = x.price := by simpa using e1
            simp only [decide_eq_false_iff_not]
            exact fun h => hpc ⟨this, h⟩
          clear hro hx1 hx2 hx3 hx4 hfa hpc hk8 hbk hsd hj
          rw [show ordR (some x) = .tuple #[.agg #[.int .i64 x.id, .int .i64 x.trader, .int .i64 x.book, .int .i64 x.side, .int .i64 x.price, .int .i64 x.opn], .bool true] from rfl]
          go_wp2_with (go_at_call 98; refine (dReplace_any bx bb v ro s x c.price c.count _ ((unhide HP).no (unhide HA).1) (unhide HG) _ (unhide HA).2.1 (unhide HA).2.2.1 (unhide HA).2.2.2 (unhide HCN)).mono ?_; rintro e w3 ⟨r3, v3, ro3, rfl, ht3⟩; have HT3 := hide ht3; clear ht3)
          go_ret
          rw [unhide HE]
          exact CmdPost.after (unhide HA).1 ⟨_, v3, ro3, rfl, unhide HT3⟩
end Go.Proofs.YtigpgnjgmaoejaaGreat

/- A desk's commands Open and Close, and what every command comes to: do and Do. Conditions: the pit lies in memory and is as it should be. -/
namespace Go.Proofs.YtigpgnjgmaoejaaGreat
open Go.RowKit

/-- Why a command that wants a phase is refused. -/
def phasedE (s : St) (b ph : Int) : Int := if inB b 1 8 = false then 2 else if (if s.tr (bk b) = true then (2 : Int) else 1) ≠ ph then 6 else 0

set_option maxHeartbeats 1000000 in
theorem phased_any (bx : Nat) (bb : Nat → Nat) (v : Nat → Nat → Value) (ro : Nat → Nat) (s : St) (b ph : Int) (w : World) (h : PitAt w bx bb v ro s) :
    Calls Tryz.prog 100 #[.pointer (some ⟨bx, 0, none⟩), .int .i64 b, .int .i64 ph] w fun e w' => e = .returned (.int .i64 (phasedE s b ph)) ∧ w' = w := by
  have HP := hide h
  clear h
  cases hb : inB b 1 8 with
  | false =>
    have HB := hide hb
    have HE : Hid (phasedE s b ph = 2) := by show _ = _; simp [phasedE, hb]
    clear hb
    go_enter Tryz.func100, Tryz.ntmps100
    go_wp2_with (go_at_call 27; refine (isBook_any _ _).mono ?_; rintro e w1 ⟨rfl, hw1⟩; have hw1' := hw1.symm; subst hw1'; rw [unhide HB])
    go_ret
    exact ⟨retI (unhide HE).symm, rfl⟩
  | true =>
    obtain ⟨h1, h8⟩ := inB_true' hb
    obtain ⟨k, hk⟩ := Int.eq_ofNat_of_zero_le (by omega : 0 ≤ b - 1)
    have hbk : b = (k : Int) + 1 := by omega
    have hk8 : k < 8 := by omega
    have hbe : bk b = k := by unfold bk; omega
    have HB := hide hb
    have HBK := hide hbk
    generalize hph : (if s.tr k = true then (2 : Int) else 1) = q at *
    have HPH := hide hph
    by_cases hq : q = ph
    · have hqb : (q != ph) = false := by simpa using hq
      have HE : Hid (phasedE s b ph = 0) := by show _ = _; unfold phasedE; rw [if_neg (by rw [hb]; decide), hbe, hph, if_neg (by simpa using hq)]
      clear hb h1 h8 hk hbk hbe hph hq
      go_enter Tryz.func100, Tryz.ntmps100
      go_wp2_with (first
        | (go_at_call 27; refine (isBook_any _ _).mono ?_; rintro e w1 ⟨rfl, hw1⟩; have hw1' := hw1.symm; subst hw1'; rw [unhide HB])
        | (go_at_call 28; refine (dBook_any bx bb v ro s k hk8 b (unhide HBK) _ (unhide HP)).mono ?_; rintro e w2 ⟨rfl, hw2⟩; have hw2' := hw2.symm; subst hw2')
        | (go_at_call 141; refine (bPhase_any (bb k) bx _ _ (v k) (s.M k) _ ((unhide HP).book k hk8)).mono ?_; rintro e w3 ⟨rfl, hw3⟩; have hw3' := hw3.symm; subst hw3'; rw [unhide HPH]))
      go_ret
      exact ⟨retI (unhide HE).symm, rfl⟩
    · have hqb : (q != ph) = true := by simpa using hq
      have HE : Hid (phasedE s b ph = 6) := by show _ = _; unfold phasedE; rw [if_neg (by rw [hb]; decide), hbe, hph, if_pos hq]
      clear hb h1 h8 hk hbk hbe hph hq
      go_enter Tryz.func100, Tryz.ntmps100
      go_wp2_with (first
        | (go_at_call 27; refine (isBook_any _ _).mono ?_; rintro e w1 ⟨rfl, hw1⟩; have hw1' := hw1.symm; subst hw1'; rw [unhide HB])
        | (go_at_call 28; refine (dBook_any bx bb v ro s k hk8 b (unhide HBK) _ (unhide HP)).mono ?_; rintro e w2 ⟨rfl, hw2⟩; have hw2' := hw2.symm; subst hw2')
        | (go_at_call 141; refine (bPhase_any (bb k) bx _ _ (v k) (s.M k) _ ((unhide HP).book k hk8)).mono ?_; rintro e w3 ⟨rfl, hw3⟩; have hw3' := hw3.symm; subst hw3'; rw [unhide HPH]))
      go_ret
      exact ⟨retI (unhide HE).symm, rfl⟩

/-- A book is as MeetTo says; so is the pit. -/
theorem PitAt.cmd {w w' : World} {bx : Nat} {bb : Nat → Nat} {v : Nat → Nat → Value} {ro : Nat → Nat} {s : St} (h : PitAt w bx bb v ro s) {k : Nat} (hk : k < 8) {v' : Nat → Value} {M' : Nat → List Ord} {tr' : Bool} {td' vol' : Int} {l : Value} {E : List Ev}
    (hb : MeetTo w w' (bb k) bx tr' (v k) v' M' (pitCells bb s.vol) td' vol' l E) : CmdPost w bx bb v (⟨upd s.tr k tr', upd s.td k td', upd s.M k M', vol'⟩, E) (.returned l) w' := by
  obtain ⟨ro', ht⟩ := h.turned hk hb.px hb.fr hb.new
  refine ⟨l, _, ro', rfl, ht, hb.evs, fun g hg hp => ?_⟩
  have hge := (hb.evs.lt g hg).1
  rcases hp with hp | ⟨i, hi, hp⟩
  · have := h.lt g (.inl hp); omega
  · by_cases hik : i = k
    · subst hik
      rw [upd_self] at hp
      exact hb.el g hg hp
    · rw [upd_other hik] at hp
      have := h.lt g (.inr ⟨i, hi, hp⟩)
      omega
theorem pOpen_any (bx : Nat) (bb : Nat → Nat) (v : Nat → Nat → Value) (ro : Nat → Nat) (s : St) (k : Nat) (hk : k < 8) (w : World) (h : PitAt w bx bb v ro s) (hw : WF s) :
    Calls Tryz.prog 101 #[.pointer (some ⟨bb k, 0, none⟩)] w (CmdPost w bx bb v (s.open_ k)) :=
  (bOpen_any k (bb k) bx (s.tr k) (s.td k) (v k) (s.M k) (pitCells bb s.vol) s.vol (hw.book k hk) w (h.px hk)).mono fun _ _ ⟨_, _, he, hm⟩ => by rw [he]; exact h.cmd hk hm
theorem pClose_any (bx : Nat) (bb : Nat → Nat) (v : Nat → Nat → Value) (ro : Nat → Nat) (s : St) (k : Nat) (hk : k < 8) (w : World) (h : PitAt w bx bb v ro s) :
    Calls Tryz.prog 102 #[.pointer (some ⟨bb k, 0, none⟩)] w (CmdPost w bx bb v (s.close_ k)) :=
  (bClose_any (bb k) bx (s.tr k) (s.td k) (v k) (s.M k) (pitCells bb s.vol) s.vol w (h.px hk)).mono fun _ _ ⟨_, he, hm⟩ => by
    have := h.cmd hk hm
    rw [upd_same, upd_same] at this
    rw [he]
    exact this

theorem sOpen_ph (s : St) (c : Cmd) : sOpen s c = if phasedE s c.book 1 ≠ 0 then (s, [refusedE 0 (phasedE s c.book 1)]) else s.open_ (bk c.book) := by
  unfold sOpen phasedE
  cases inB c.book 1 8 <;> cases s.tr (bk c.book) <;> simp
theorem sClose_ph (s : St) (c : Cmd) : sClose s c = if phasedE s c.book 2 ≠ 0 then (s, [refusedE 0 (phasedE s c.book 2)]) else s.close_ (bk c.book) := by
  unfold sClose phasedE
  cases inB c.book 1 8 <;> cases s.tr (bk c.book) <;> simp
theorem phased_ok {s : St} {b ph : Int} (h : phasedE s b ph = 0) : ∃ k : Nat, k < 8 ∧ b = (k : Int) + 1 ∧ bk b = k := by
  cases hb : inB b 1 8 with
  | false => simp [phasedE, hb] at h
  | true =>
    obtain ⟨h1, h8⟩ := inB_true' hb
    exact ⟨bk b, by unfold bk; omega, by unfold bk; omega, rfl⟩

set_option maxHeartbeats 2000000 in
theorem dOpen_any (bx : Nat) (bb : Nat → Nat) (v : Nat → Nat → Value) (ro : Nat → Nat) (s : St) (c : Cmd) (w : World) (h : PitAt w bx bb v ro s) (hg : WF s) :
    Calls Tryz.prog 48 #[.pointer (some ⟨bx, 0, none⟩), c.val] w (CmdPost w bx bb v (sOpen s c)) := by
  have HP := hide h
  have HG := hide hg
  clear h hg
  obtain ⟨B, hB⟩ : ∃ B, phasedE s c.book 1 = B := ⟨_, rfl⟩
  obtain ⟨X, hX⟩ : ∃ X, X = sOpen s c := ⟨_, rfl⟩
  rw [← hX]
  rw [sOpen_ph, hB] at hX
  have HX := hide hX
  have HB := hide hB
  clear hB hX
  unfold Cmd.val
  go_enter Tryz.func48, Tryz.ntmps48
  go_wp2_with fail
  generalize hW : World.alloc w _ = W0
  have hB0 : Boxed w W0 w.heap.size c := newAt hW rfl
  generalize hN : w.heap.size = N at *
  clear hW hN
  have hN1 := hB0.lt
  obtain ⟨y0, y1, y2, y3, y4, y5, y6, y7, _⟩ := box8 hB0.box
  have HB0 := hide hB0
  clear hB0
  refine (phased_any bx bb v ro s c.book 1 W0 ((unhide HP).no (unhide HB0).fr)).mono ?_
  rintro e w1 ⟨rfl, rfl⟩
  rw [unhide HB]
  by_cases hB0 : B = 0
  · have hb : (B != 0) = false := by simpa using hB0
    obtain ⟨k, hk8, hbk, hke⟩ := phased_ok ((unhide HB).trans hB0)
    have HE : Hid (X = s.open_ k) := by show _ = _; rw [unhide HX, if_neg (by simpa using hB0), hke]
    have HBK := hide hbk
    clear hB0 hbk hke
    go_wp2_with fail
    refine (dBook_any bx bb v ro s k hk8 c.book (unhide HBK) w1 ((unhide HP).no (unhide HB0).fr)).mono ?_
    rintro e w2 ⟨rfl, rfl⟩
    go_wp2_with (go_at_call 101; refine (pOpen_any bx bb v ro s k hk8 _ ((unhide HP).no (unhide HB0).fr) (unhide HG)).mono ?_; rintro e w3 ⟨r3, v3, ro3, rfl, ht3⟩; have HT3 := hide ht3; clear ht3)
    go_ret
    rw [unhide HE]
    exact CmdPost.after (unhide HB0).fr ⟨_, v3, ro3, rfl, unhide HT3⟩
  · have hb : (B != 0) = true := by simpa using hB0
    have HE : Hid (X = (s, [refusedE 0 B])) := by show _ = _; rw [unhide HX, if_pos hB0]
    clear hB0
    go_wp2_with (go_at_call 50; refine (pRefused_any _ _ _).mono ?_; rintro e w6 ⟨r6, rfl, he6, hf6⟩)
    go_ret
    rw [unhide HE]
    exact CmdPost.said (unhide HP) ((unhide HB0).fr.quiet hf6) (es_more (unhide HB0).fr he6)
set_option maxHeartbeats 2000000 in
theorem dClose_any (bx : Nat) (bb : Nat → Nat) (v : Nat → Nat → Value) (ro : Nat → Nat) (s : St) (c : Cmd) (w : World) (h : PitAt w bx bb v ro s) :
    Calls Tryz.prog 49 #[.pointer (some ⟨bx, 0, none⟩), c.val] w (CmdPost w bx bb v (sClose s c)) := by
  have HP := hide h
  clear h
  obtain ⟨B, hB⟩ : ∃ B, phasedE s c.book 2 = B := ⟨_, rfl⟩
  obtain ⟨X, hX⟩ : ∃ X, X = sClose s c := ⟨_, rfl⟩
  rw [← hX]
  rw [sClose_ph, hB] at hX
  have HX := hide hX
  have HB := hide hB
  clear hB hX
  unfold Cmd.val
  go_enter Tryz.func49, Tryz.ntmps49
  go_wp2_with fail
  generalize hW : World.alloc w _ = W0
  have hB0 : Boxed w W0 w.heap.size c := newAt hW rfl
  generalize hN : w.heap.size = N at *
  clear hW hN
  have hN1 := hB0.lt
  obtain ⟨y0, y1, y2, y3, y4, y5, y6, y7, _⟩ := box8 hB0.box
  have HB0 := hide hB0
  clear hB0
  refine (phased_any bx bb v ro s c.book 2 W0 ((unhide HP).no (unhide HB0).fr)).mono ?_
  rintro e w1 ⟨rfl, rfl⟩
  rw [unhide HB]
  by_cases hB0 : B = 0
  · have hb : (B != 0) = false := by simpa using hB0
    obtain ⟨k, hk8, hbk, hke⟩ := phased_ok ((unhide HB).trans hB0)
    have HE : Hid (X = s.close_ k) := by show _ = _; rw [unhide HX, if_neg (by simpa using hB0), hke]
    have HBK := hide hbk
    clear hB0 hbk hke
    go_wp2_with fail
    refine (dBook_any bx bb v ro s k hk8 c.book (unhide HBK) w1 ((unhide HP).no (unhide HB0).fr)).mono ?_
    rintro e w2 ⟨rfl, rfl⟩
    go_wp2_with (go_at_call 102; refine (pClose_any bx bb v ro s k hk8 _ ((unhide HP).no (unhide HB0).fr)).mono ?_; rintro e w3 ⟨r3, v3, ro3, rfl, ht3⟩; have HT3 := hide ht3; clear ht3)
    go_ret
    rw [unhide HE]
    exact CmdPost.after (unhide HB0).fr ⟨_, v3, ro3, rfl, unhide HT3⟩
  · have hb : (B != 0) = true := by simpa using hB0
    have HE : Hid (X = (s, [refusedE 0 B])) := by show _ = _; rw [unhide HX, if_pos hB0]
    clear hB0
    go_wp2_with (go_at_call 50; refine (pRefused_any _ _ _).mono ?_; rintro e w6 ⟨r6, rfl, he6, hf6⟩)
    go_ret
    rw [unhide HE]
    exact CmdPost.said (unhide HP) ((unhide HB0).fr.quiet hf6) (es_more (unhide HB0).fr he6)
set_option maxHeartbeats 8000000 in
set_option maxRecDepth 20000 in
theorem dDo_any (bx : Nat) (bb : Nat → Nat) (v : Nat → Nat → Value) (ro : Nat → Nat) (s : St) (c : Cmd) (w : World) (h : PitAt w bx bb v ro s) (hg : WF s) :
    Calls Tryz.prog 25 #[.pointer (some ⟨bx, 0, none⟩), c.val] w (CmdPost w bx bb v (sDo s c)) := by
  have HP := hide h
  have HG := hide hg
  clear h hg
  obtain ⟨X, hX⟩ : ∃ X, X = sDo s c := ⟨_, rfl⟩
  rw [← hX]
  have HX := hide hX
  clear hX
  unfold Cmd.val
  by_cases h1 : c.what = 1
  · have b1 : (c.what == 1) = true := by simpa using h1
    have HE : Hid (X = sNew s c) := by show _ = _; rw [unhide HX]; simp [sDo, h1]
    clear h1
    go_enter Tryz.func25, Tryz.ntmps25
    go_wp2_with fail
    generalize hW : World.alloc w _ = W0
    have hB0 : Boxed w W0 w.heap.size c := newAt hW rfl
    have HB0 := hide hB0
    clear hW hB0
    refine (dEnter_any bx bb v ro s c W0 ((unhide HP).no (unhide HB0).fr) (unhide HG)).mono ?_
    rintro e w3 ⟨r3, v3, ro3, rfl, ht3⟩
    have HT3 := hide ht3
    clear ht3
    go_wp2
    go_ret
    rw [unhide HE]
    exact CmdPost.after (unhide HB0).fr ⟨_, v3, ro3, rfl, unhide HT3⟩
  · have b1 : (c.what == 1) = false := by simpa using h1
    by_cases h2 : c.what = 2
    · have b2 : (c.what == 2) = true := by simpa using h2
      have HE : Hid (X = sCancel s c) := by show _ = _; rw [unhide HX]; simp [sDo, h2]
      clear h1 h2
      go_enter Tryz.func25, Tryz.ntmps25
      go_wp2_with fail
      generalize hW : World.alloc w _ = W0
      have hB0 : Boxed w W0 w.heap.size c := newAt hW rfl
      have HB0 := hide hB0
      clear hW hB0
      refine (dCancel_any bx bb v ro s c W0 ((unhide HP).no (unhide HB0).fr) (unhide HG)).mono ?_
      rintro e w3 ⟨r3, v3, ro3, rfl, ht3⟩
      have HT3 := hide ht3
      clear ht3
      go_wp2
      go_ret
      rw [unhide HE]
      exact CmdPost.after (unhide HB0).fr ⟨_, v3, ro3, rfl, unhide HT3⟩
    · have b2 : (c.what == 2) = false := by simpa using h2
      by_cases h3 : c.what = 3
      · have b3 : (c.what == 3) = true := by simpa using h3
        have HE : Hid (X = sChange s c) := by show _ = _; rw [unhide HX]; simp [sDo, h3]
        clear h1 h2 h3
        go_enter Tryz.func25, Tryz.ntmps25
        go_wp2_with fail
        generalize hW : World.alloc w _ = W0
        have hB0 : Boxed w W0 w.heap.size c := newAt hW rfl
        have HB0 := hide hB0
        clear hW hB0
        refine (dChange_any bx bb v ro s c W0 ((unhide HP).no (unhide HB0).fr) (unhide HG)).mono ?_
        rintro e w3 ⟨r3, v3, ro3, rfl, ht3⟩
        have HT3 := hide ht3
        clear ht3
        go_wp2
        go_ret
        rw [unhide HE]
        exact CmdPost.after (unhide HB0).fr ⟨_, v3, ro3, rfl, unhide HT3⟩
      · have b3 : (c.what == 3) = false := by simpa using h3
        by_cases h4 : c.what = 4
        · have b4 : (c.what == 4) = true := by simpa using h4
          have HE : Hid (X = sCancelAll s c) := by show _ = _; rw [unhide HX]; simp [sDo, h4]
          clear h1 h2 h3 h4
          go_enter Tryz.func25, Tryz.ntmps25
          go_wp2_with fail
          generalize hW : World.alloc w _ = W0
          have hB0 : Boxed w W0 w.heap.size c := newAt hW rfl
          have HB0 := hide hB0
          clear hW hB0
          refine (dCancelAll_any bx bb v ro s c W0 ((unhide HP).no (unhide HB0).fr) (unhide HG)).mono ?_
          rintro e w3 ⟨r3, v3, ro3, rfl, ht3⟩
          have HT3 := hide ht3
          clear ht3
          go_wp2
          go_ret
          rw [unhide HE]
          exact CmdPost.after (unhide HB0).fr ⟨_, v3, ro3, rfl, unhide HT3⟩
        · have b4 : (c.what == 4) = false := by simpa using h4
          by_cases h5 : c.what = 5
          · have b5 : (c.what == 5) = true := by simpa using h5
            have HE : Hid (X = sOpen s c) := by show _ = _; rw [unhide HX]; simp [sDo, h5]
            clear h1 h2 h3 h4 h5
            go_enter Tryz.func25, Tryz.ntmps25
            go_wp2_with fail
            generalize hW : World.alloc w _ = W0
            have hB0 : Boxed w W0 w.heap.size c := newAt hW rfl
            have HB0 := hide hB0
            clear hW hB0
            refine (dOpen_any bx bb v ro s c W0 ((unhide HP).no (unhide HB0).fr) (unhide HG)).mono ?_
            rintro e w3 ⟨r3, v3, ro3, rfl, ht3⟩
            have HT3 := hide ht3
            clear ht3
            go_wp2
            go_ret
            rw [unhide HE]
            exact CmdPost.after (unhide HB0).fr ⟨_, v3, ro3, rfl, unhide HT3⟩
          · have b5 : (c.what == 5) = false := by simpa using h5
            by_cases h6 : c.what = 6
            · have b6 : (c.what == 6) = true := by simpa using h6
              have HE : Hid (X = sClose s c) := by show _ = _; rw [unhide HX]; simp [sDo, h6]
              clear h1 h2 h3 h4 h5 h6
              go_enter Tryz.func25, Tryz.ntmps25
              go_wp2_with fail
              generalize hW : World.alloc w _ = W0
              have hB0 : Boxed w W0 w.heap.size c := newAt hW rfl
              have HB0 := hide hB0
              clear hW hB0
              refine (dClose_any bx bb v ro s c W0 ((unhide HP).no (unhide HB0).fr)).mono ?_
              rintro e w3 ⟨r3, v3, ro3, rfl, ht3⟩
              have HT3 := hide ht3
              clear ht3
              go_wp2
              go_ret
              rw [unhide HE]
              exact CmdPost.after (unhide HB0).fr ⟨_, v3, ro3, rfl, unhide HT3⟩
            · have b6 : (c.what == 6) = false := by simpa using h6
              have HE : Hid (X = (s, [refusedE 0 1])) := by show _ = _; rw [unhide HX]; simp [sDo, h1, h2, h3, h4, h5, h6]
              clear h1 h2 h3 h4 h5 h6
              go_enter Tryz.func25, Tryz.ntmps25
              go_wp2_with fail
              generalize hW : World.alloc w _ = W0
              have hB0 : Boxed w W0 w.heap.size c := newAt hW rfl
              have HB0 := hide hB0
              clear hW hB0
              refine (pRefused_any 0 1 W0).mono ?_
              rintro e w2 ⟨r2, rfl, he2, hf2⟩
              go_wp2
              go_ret
              rw [unhide HE]
              exact CmdPost.said (unhide HP) ((unhide HB0).fr.quiet hf2) (es_more (unhide HB0).fr he2)

set_option maxHeartbeats 4000000 in
set_option maxRecDepth 20000 in
theorem pDo_any (bx : Nat) (bb : Nat → Nat) (v : Nat → Nat → Value) (ro : Nat → Nat) (s : St) (c : Cmd) (w : World) (h : PitAt w bx bb v ro s) (hg : WF s) :
    Calls Tryz.prog 13 #[.pointer (some ⟨bx, 0, none⟩), c.val] w (CmdPost w bx bb v (sDo s c)) := by
  have HP := hide h
  have HG := hide hg
  clear h hg
  unfold Cmd.val
  go_enter Tryz.func13, Tryz.ntmps13
  go_wp2_with fail
  generalize hW : World.alloc w _ = W0
  have hB0 : Boxed w W0 w.heap.size c := newAt hW rfl
  have hnp : ¬ PS bx bb v w.heap.size := fun e => by have := (unhide HP).lt _ e; omega
  generalize hN : w.heap.size = N at *
  have HNP := hide hnp
  clear hW hN hnp
  have hN1 := hB0.lt
  obtain ⟨y0, y1, y2, y3, y4, y5, y6, y7, _⟩ := box8 hB0.box
  have HB0 := hide hB0
  clear hB0
  go_region_held3 (fun w' : World => w'.cell? ⟨N, 0, none⟩ = some (.int .i64 c.what) ∧ w'.cell? ⟨N, 1, none⟩ = some (.int .i64 c.id) ∧ w'.cell? ⟨N, 2, none⟩ = some (.int .i64 c.trader) ∧ w'.cell? ⟨N, 3, none⟩ = some (.int .i64 c.book) ∧ w'.cell? ⟨N, 4, none⟩ = some (.int .i64 c.side) ∧ w'.cell? ⟨N, 5, none⟩ = some (.int .i64 c.kind) ∧ w'.cell? ⟨N, 6, none⟩ = some (.int .i64 c.price) ∧ w'.cell? ⟨N, 7, none⟩ = some (.int .i64 c.count)) (go_keep)
    (first
      | (go_at_call 22; refine (ready_any bx bb v ro s _ ((unhide HP).no ((unhide HB0).fr.quiet (by repeat (first | exact Fr.refl _ _ | refine Fr.drew ?_))))).mono ?_; rintro e w1 ⟨rfl, rfl⟩)
      | (go_at_call 25; refine (dDo_any bx bb v ro s c _ ((unhide HP).no ((unhide HB0).fr.quiet (by repeat (first | exact Fr.refl _ _ | refine Fr.drew ?_)))) (unhide HG)).mono ?_; rintro e w2 ht2; have hB2 := ht2.keep (unhide HB0).box (unhide HNP); obtain ⟨a0, a1, a2, a3, a4, a5, a6, a7, _⟩ := box8 hB2; obtain ⟨r2, v2, ro2, rfl, ht2⟩ := ht2; have HT2 := hide ht2; clear hB2 ht2))
  go_wp2
  go_ret
  exact CmdPost.after (unhide HB0).fr.drew ⟨_, v2, ro2, rfl, unhide HT2⟩
end Go.Proofs.YtigpgnjgmaoejaaGreat
