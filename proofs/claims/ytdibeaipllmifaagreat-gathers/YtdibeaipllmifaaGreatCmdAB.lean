/- What a command comes to (CmdPost); the pit's command New, in books that gather. Conditions: the pit lies in memory and is good. -/
import Derived.Test.YtdibeaipllmifaaGreatProgOP
import Derived.Test.YtdibeaipllmifaaGreatProgUV
import Derived.Test.YtdibeaipllmifaaGreatProgW
import Derived.Test.YtdibeaipllmifaaGreatRefN
namespace Go.Proofs.YtdibeaipllmifaaGreat
open Go.RowKit

/-- What a command comes to: what rests then, and the events. -/
structure CmdTo (w w' : World) (bx : Nat) (bb : Nat → Nat) (v v' : Nat → Nat → Value) (ro' : Nat → Nat) (s : Ref) (x : List Ord × List Ev) (r : Value) : Prop where
  pit : PitAt w' bx bb v' ro' { s with L := x.1 }
  fr : Fr (PS bx bb v) w w'
  new : ∀ g, PS bx bb v' g → PS bx bb v g ∨ w.heap.size ≤ g
  evs : Es w' w.heap.size r x.2
  own : ∀ g, OwnS r g → ¬ PS bx bb v' g
def CmdPost (w : World) (bx : Nat) (bb : Nat → Nat) (v : Nat → Nat → Value) (s : Ref) (x : List Ord × List Ev) (e : Ending) (w' : World) : Prop :=
  ∃ r v' ro', e = .returned r ∧ CmdTo w w' bx bb v v' ro' s x r

theorem CmdPost.said {w w' : World} {bx : Nat} {bb : Nat → Nat} {v : Nat → Nat → Value} {ro : Nat → Nat} {s : Ref} {r : Value} {E : List Ev} (h : PitAt w bx bb v ro s) (hf : Fr No w w') (he : Es w' w.heap.size r E) : CmdPost w bx bb v s (s.L, E) (.returned r) w' :=
  ⟨r, v, ro, rfl, h.no hf, hf.of_no, fun _ hg => .inl hg, he, fun g hg hp => by have := (he.lt g hg).1; have := h.lt g hp; omega⟩
theorem es_more {w w1 w' : World} {r : Value} {E : List Ev} (hf : Fr No w w1) (he : Es w' w1.heap.size r E) : Es w' w.heap.size r E := own_base he fun g hg => Nat.le_trans hf.size (he.lt g hg).1

theorem inBook_snoc {L : List Ord} {x : Ord} {k j : Nat} : inBook (L ++ [x]) k j = if (k : Int) + 1 = x.book ∧ (j : Int) + 1 = x.side then putO x.side x (inBook L k j) else inBook L k j := by
  unfold inBook
  rw [sideOf_snoc]
  by_cases hb : (k : Int) + 1 = x.book <;> by_cases hs : (j : Int) + 1 = x.side
  · rw [if_pos (by simp [inSide, hb, hs]), if_pos ⟨hb, hs⟩, insB_place (srt_sideOf _ _ _), hs]
    simp [putO]
  · rw [if_neg (by simp [inSide]; intro _ e; exact hs e.symm), if_neg (fun h => hs h.2)]
  · rw [if_neg (by simp [inSide]; intro e; exact absurd e.symm hb), if_neg (fun h => hb h.1)]
  · rw [if_neg (by simp [inSide]; intro e; exact absurd e.symm hb), if_neg (fun h => hb h.1)]
theorem gNew_bars {L : List Ord} {c : Cmd} {k : Nat} (hk : c.book = (k : Int) + 1) (hok : newOk c = true) (hf : findO L c.id = none) :
    (barsG c.kind (inBook L k) ≠ 0 → gNew L c = (L, [refusedE c.id (barsG c.kind (inBook L k))])) ∧
    (barsG c.kind (inBook L k) = 0 → c.kind = 1 ∧ (inBook L k 0).length + (inBook L k 1).length < 200 ∧ gNew L c = (L ++ [⟨c.id, c.trader, c.book, c.side, c.price, c.count⟩], [takenE c.id c.count, restsE c.id c.price c.count])) := by
  have e0 := inBook_len L k 0
  have e1 := inBook_len L k 1
  have e0 : (inBook L k 0).length = restN L c.book 1 := by rw [e0, hk]; rfl
  have e1 : (inBook L k 1).length = restN L c.book 2 := by rw [e1, hk]; rfl
  have hg : gNew L c = if c.kind ≠ 1 then (L, [refusedE c.id 6]) else if 200 ≤ restN L c.book 1 + restN L c.book 2 then (L, [refusedE c.id 5]) else (L ++ [⟨c.id, c.trader, c.book, c.side, c.price, c.count⟩], [takenE c.id c.count, restsE c.id c.price c.count]) := by
    unfold gNew
    rw [if_neg (show ¬ newOk c = false by rw [hok]; decide), hf]
  rw [hg]
  unfold barsG
  rw [e0, e1]
  by_cases h1 : c.kind = 1
  · by_cases h2 : 200 ≤ restN L c.book 1 + restN L c.book 2
    · simp [h1, h2]
    · simp [h1, h2]; omega
  · simp [h1]
theorem restO_find {L : List Ord} {id : Int} : (restO L id = none ↔ findO L id = none) := by
  unfold restO
  cases hf : findO L id with
  | none => simp
  | some i =>
    have hi := findO_lt' hf
    simp [List.getElem?_eq_getElem hi]
/-- What Enter does, for the pit. -/
theorem PitAt.entered {w w' : World} {bx : Nat} {bb : Nat → Nat} {v : Nat → Nat → Value} {ro : Nat → Nat} {s : Ref} (h : PitAt w bx bb v ro s) {k : Nat} (hk : k < 8) {x : Ord} (hb : x.book = (k : Int) + 1) {v' : Nat → Value} (ht : BTo w w' (bb k) bx (s.tr (k + 1)) (s.td (k + 1)) (v k) v' (putM x (inBook s.L k))) :
    ∃ ro', PitAt w' bx bb (upd v k v') ro' { s with L := s.L ++ [x] } ∧ Fr (PS bx bb v) w w' ∧ ∀ g, PS bx bb (upd v k v') g → PS bx bb v g ∨ w.heap.size ≤ g :=
  h.to hk ht (fun j _ => by
    rw [inBook_snoc]
    unfold putM
    by_cases hs : (j : Int) + 1 = x.side
    · rw [if_pos hs, if_pos ⟨hb.symm, hs⟩]
    · rw [if_neg hs, if_neg (fun h => hs h.2)]) (fun i _ hik j _ => by
    rw [inBook_snoc, if_neg (fun h => hik (by omega))])
end Go.Proofs.YtdibeaipllmifaaGreat

/- The pit's command New, in books that gather. Conditions: the pit lies in memory and is good. -/
namespace Go.Proofs.YtdibeaipllmifaaGreat
open Go.RowKit

/-- A command's box, and all as it was. -/
structure Boxed (w w1 : World) (N : Nat) (c : Cmd) : Prop where
  fr : Fr No w w1
  box : w1.heap[N]? = some (.cells #[.int .i64 c.what, .int .i64 c.id, .int .i64 c.trader, .int .i64 c.book, .int .i64 c.side, .int .i64 c.kind, .int .i64 c.price, .int .i64 c.count] 45 (0, 0))
theorem Boxed.no {w w1 w2 : World} {N : Nat} {c : Cmd} (h : Boxed w w1 N c) (hf : Fr No w1 w2) : Boxed w w2 N c := ⟨h.fr.quiet hf, hf.heap h.box id⟩
theorem Boxed.lt {w w1 : World} {N : Nat} {c : Cmd} (h : Boxed w w1 N c) : N < w1.heap.size := lt_of_heap h.box
theorem newAt {w W : World} {c : Cmd} {ob : Obj} (hW : World.alloc w ob = W) (ho : ob = .cells #[.int .i64 c.what, .int .i64 c.id, .int .i64 c.trader, .int .i64 c.book, .int .i64 c.side, .int .i64 c.kind, .int .i64 c.price, .int .i64 c.count] 45 (0, 0)) : Boxed w W w.heap.size c := by
  subst hW ho
  exact ⟨(Fr.refl _ _).alloc _, heap_alloc_new w _⟩

set_option maxHeartbeats 8000000 in
set_option maxRecDepth 20000 in
theorem enter_any (bx : Nat) (bb : Nat → Nat) (v : Nat → Nat → Value) (ro : Nat → Nat) (s : Ref) (c : Cmd) (w : World) (h : PitAt w bx bb v ro s) (hg : Good s) :
    Calls Tryz.prog 23 #[.pointer (some ⟨bx, 0, none⟩), c.val] w (CmdPost w bx bb v s (gNew s.L c)) := by
  have HP := hide h
  have HG := hide hg
  clear h hg
  obtain ⟨X, hX⟩ : ∃ X, X = gNew s.L c := ⟨_, rfl⟩
  rw [← hX]
  have HX := hide hX
  clear hX
  unfold Cmd.val
  go_enter Tryz.func23, Tryz.ntmps23
  go_wp2_with fail
  generalize hW : World.alloc w _ = W0
  have hB0 : Boxed w W0 w.heap.size c := newAt hW rfl
  generalize hN : w.heap.size = N at *
  have HN := hide hN
  clear hW hN
  refine (newNumbers_any c W0).mono ?_
  rintro e w1 ⟨rfl, hf1⟩
  have hB1 := hB0.no hf1
  have hN1 := hB1.lt
  obtain ⟨y0, y1, y2, y3, y4, y5, y6, y7, _⟩ := box8 hB1.box
  have HB1 := hide hB1
  clear hB0 hf1 hB1
  cases hok : newOk c with
  | false =>
    have HE : Hid (X = (s.L, [refusedE c.id 2])) := by show _ = _; rw [unhide HX]; simp [gNew, hok]
    clear hok
    go_wp2_with (go_at_call 29; refine (pRefused_any _ _ _).mono ?_; rintro e w2 ⟨r2, rfl, he2, hf2⟩)
    go_ret
    rw [unhide HE]
    exact CmdPost.said (unhide HP) ((unhide HB1).fr.quiet hf2) (es_more (unhide HB1).fr he2)
  | true =>
    obtain ⟨o1, o2, o3, o4, o5, o5', o6, o7⟩ := newOk_parts hok
    have HOK := hide hok
    have HO := hide (And.intro o3 (And.intro o4 o7))
    clear hok o1 o2 o3 o4 o5 o5' o6 o7
    go_wp2_with fail
    refine (pResting_any bx bb v ro s c.id w1 ((unhide HP).no (unhide HB1).fr) (unhide HG)).mono ?_
    rintro e w2 ⟨rfl, hf2⟩
    have hB2 := (unhide HB1).no hf2
    have hN2 := hB2.lt
    obtain ⟨z0, z1, z2, z3, z4, z5, z6, z7, _⟩ := box8 hB2.box
    have HB2 := hide hB2
    clear hB2 hf2 y0 y1 y2 y3 y4 y5 y6 y7
    cases hro : restO s.L c.id with
    | some x =>
      have HE : Hid (X = (s.L, [refusedE c.id 3])) := by
        show _ = _
        rw [unhide HX]
        cases hf : findO s.L c.id with
        | none => rw [restO_find.2 hf] at hro; cases hro
        | some i => simp [gNew, unhide HOK, hf]
      clear hro
      rw [show ordR (some x) = .tuple #[.agg #[.int .i64 x.id, .int .i64 x.trader, .int .i64 x.book, .int .i64 x.side, .int .i64 x.price, .int .i64 x.opn], .bool true] from rfl]
      go_wp2_with (go_at_call 29; refine (pRefused_any _ _ _).mono ?_; rintro e w3 ⟨r3, rfl, he3, hf3⟩)
      go_ret
      rw [unhide HE]
      have hfa := (unhide HB2).fr.alloc (.cells #[.int .i64 x.id, .int .i64 x.trader, .int .i64 x.book, .int .i64 x.side, .int .i64 x.price, .int .i64 x.opn] 76)
      exact CmdPost.said (unhide HP) (hfa.quiet hf3) (es_more hfa he3)
    | none =>
      have hfn := restO_find.1 hro
      have HFN := hide hfn
      clear hro hfn
      rw [show ordR none = .tuple #[.agg #[.int .i64 0, .int .i64 0, .int .i64 0, .int .i64 0, .int .i64 0, .int .i64 0], .bool false] from rfl]
      go_wp2
      generalize hW3 : World.alloc (World.alloc w2 _) _ = W3
      have hf3 : Fr No w2 W3 := by rw [← hW3]; exact ((Fr.refl _ _).alloc _).alloc _
      have hq3 : W3.heap[w2.heap.size + 1]? = some (.cells #[.int .i64 c.id, .int .i64 c.trader, .int .i64 c.book, .int .i64 c.side, .int .i64 c.price, .int .i64 c.count] 76 (0, 0)) := by rw [← hW3]; exact heap_newAt _ _ (by simp)
      generalize hQ : w2.heap.size + 1 = Q at *
      have hB3 := (unhide HB2).no hf3
      have hN3 := hB3.lt
      have hQ3 := lt_of_heap hq3
      have hQw : N < Q := by omega
      clear hW3 hf3 hQ z0 z1 z2 z3 z4 z5 z6 z7
      obtain ⟨z0, z1, z2, z3, z4, z5, z6, z7, _⟩ := box8 hB3.box
      obtain ⟨q0, q1, q2, q3, q4, q5, _⟩ := box6 hq3
      have HB3 := hide (And.intro hB3 hq3)
      obtain ⟨h1, h8⟩ := inB_true' (unhide HO).1
      obtain ⟨k, hk⟩ := Int.eq_ofNat_of_zero_le (by omega : 0 ≤ c.book - 1)
      have hbk : c.book = (k : Int) + 1 := by omega
      have hk8 : k < 8 := by omega
      have htr := (unhide HG).tr (k + 1)
      have HK := hide (And.intro hbk htr)
      have hgb := gNew_bars hbk (unhide HOK) (unhide HFN)
      rw [← unhide HX] at hgb
      have HGB := hide hgb
      have HPB : Hid (∀ w', Fr No w w' → PB w' (bb k) bx false (s.td (k + 1)) (v k) (inBook s.L k)) := fun w' hf => by
        have := ((unhide HP).book k hk8).no hf
        rw [htr] at this
        exact this
      generalize hBG : barsG c.kind (inBook s.L k) = B at *
      have HBG := hide hBG
      clear hB3 hq3 h1 h8 hk hbk htr hgb hBG
      go_region_held3 (fun w' : World => w'.cell? ⟨Q, 0, none⟩ = some (.int .i64 c.id) ∧ w'.cell? ⟨Q, 1, none⟩ = some (.int .i64 c.trader) ∧ w'.cell? ⟨Q, 2, none⟩ = some (.int .i64 c.book) ∧ w'.cell? ⟨Q, 3, none⟩ = some (.int .i64 c.side) ∧ w'.cell? ⟨Q, 4, none⟩ = some (.int .i64 c.price) ∧ w'.cell? ⟨Q, 5, none⟩ = some (.int .i64 c.count) ∧ w'.cell? ⟨N, 5, none⟩ = some (.int .i64 c.kind)) (go_keep)
        (first
          | (go_at_call 52; refine (pBook_any bx bb v ro s k hk8 c.book (unhide HK).1 _ ((unhide HP).no ((unhide HB3).1.fr.quiet (by repeat (first | exact Fr.refl _ _ | refine Fr.drew ?_))))).mono ?_; rintro e w4 ⟨rfl, rfl⟩)
          | (go_at_call 53; refine (bBars_gather (bb k) bx _ (v k) (inBook s.L k) ⟨c.id, c.trader, c.book, c.side, c.price, c.count⟩ c.kind (unhide HO).2.1 _ (unhide HPB _ ((unhide HB3).1.fr.quiet (by repeat (first | exact Fr.refl _ _ | refine Fr.drew ?_))))).mono ?_; rintro e w5 ⟨rfl, hf5'⟩; rw [unhide HBG]; have hf5 : Fr No W3 w5 := Fr.quiet ((Fr.refl _ _).drew) hf5'; have hB5 := (unhide HB3).1.no hf5; have hq5 := hf5.heap (unhide HB3).2 id; obtain ⟨t0, t1, t2, t3, t4, t5, t6, t7, _⟩ := box8 hB5.box; obtain ⟨r0, r1, r2, r3, r4, r5, _⟩ := box6 hq5; have hN5 := hB5.lt; have hQ5 := lt_of_heap hq5; have HB5 := hide (And.intro hB5 hq5); clear hB5 hq5 hf5 hf5'))
      clear z0 z1 z2 z3 z4 z5 z6 z7 q0 q1 q2 q3 q4 q5
      by_cases hB0 : B = 0
      · obtain ⟨hk1, hln, hXE⟩ := (unhide HGB).2 hB0
        have HE := hide (And.intro hXE hln)
        subst hB0
        clear hXE hln
        rw [hk1] at t5
        have hnb : ¬ BS (bb k) (v k) N ∧ ¬ BS (bb k) (v k) Q := by
          have hlt := (unhide HP).lt
          have hN := unhide HN
          have hQl := hQw
          exact ⟨fun e => by have := hlt N (.inr ⟨k, hk8, e⟩); omega, fun e => by have := hlt Q (.inr ⟨k, hk8, e⟩); omega⟩
        have HNB := hide hnb
        have hop : c.count ≠ 0 := by have := inB_true' (unhide HO).2.2; omega
        have HOP := hide hop
        have hl9 : ∀ j, j < 2 → (inBook s.L k j).length < 1000 := fun j hj => by
          have := (unhide HE).2
          match j, hj with
          | 0, _ => omega
          | 1, _ => omega
        have HL9 := hide hl9
        clear hnb hop hl9
        go_wp2
        go_region_held3 (fun w' : World => w'.cell? ⟨Q, 0, none⟩ = some (.int .i64 c.id) ∧ w'.cell? ⟨Q, 1, none⟩ = some (.int .i64 c.trader) ∧ w'.cell? ⟨Q, 2, none⟩ = some (.int .i64 c.book) ∧ w'.cell? ⟨Q, 3, none⟩ = some (.int .i64 c.side) ∧ w'.cell? ⟨Q, 4, none⟩ = some (.int .i64 c.price) ∧ w'.cell? ⟨Q, 5, none⟩ = some (.int .i64 c.count) ∧ w'.cell? ⟨N, 5, none⟩ = some (.int .i64 1)) (go_keep)
          (first
            | (go_at_call 52; refine (pBook_any bx bb v ro s k hk8 c.book (unhide HK).1 _ ((unhide HP).no ((unhide HB5).1.fr.quiet (by repeat (first | exact Fr.refl _ _ | refine Fr.drew ?_))))).mono ?_; rintro e w6 ⟨rfl, rfl⟩)
            | (go_at_call 54; refine (bEnter_gather (bb k) bx _ (v k) (inBook s.L k) ⟨c.id, c.trader, c.book, c.side, c.price, c.count⟩ (unhide HO).2.1 (unhide HOP) _ (unhide HPB _ ((unhide HB5).1.fr.quiet (by repeat (first | exact Fr.refl _ _ | refine Fr.drew ?_)))) (unhide HL9)).mono ?_; rintro e w7 ⟨r7, v7, rfl, he7, ht7, ho7⟩; have hf7 : Fr (BS (bb k) (v k)) w5 w7 := Fr.same ((Fr.refl _ _).drew) ht7.fr; have hB7 := hf7.heap (unhide HB5).1.box (unhide HNB).1; have hq7 := hf7.heap (unhide HB5).2 (unhide HNB).2; obtain ⟨a0, a1, a2, a3, a4, a5, a6, a7, _⟩ := box8 hB7; obtain ⟨b0, b1, b2, b3, b4, b5, _⟩ := box6 hq7; rw [hk1] at a5; have HT7 := hide (And.intro he7 (And.intro ht7 ho7)); clear hf7 hB7 hq7 he7 ht7 ho7))
        go_wp2
        go_ret
        obtain ⟨he7, ht7, ho7⟩ := unhide HT7
        have hfw : Fr No w w5.drew := (unhide HB5).1.fr.drew
        have hP5 := (unhide HP).no hfw
        have htr := (unhide HK).2
        rw [← htr] at ht7
        obtain ⟨ro7, hp7, hfr7, hnw7⟩ := hP5.entered hk8 (x := ⟨c.id, c.trader, c.book, c.side, c.price, c.count⟩) (unhide HK).1 ht7
        rw [(unhide HE).1]
        refine ⟨_, _, ro7, rfl, hp7, hfw.of_no.same hfr7, fun g hg => (hnw7 g hg).imp id (fun h => Nat.le_trans hfw.size h), es_more hfw he7, fun g hg hp => ?_⟩
        have hge := (he7.lt g hg).1
        rcases hp with hp | ⟨i, hi, hp⟩
        · have := (unhide HP).lt g (.inl hp)
          have := hfw.size
          omega
        · by_cases hik : i = k
          · subst hik
            simp only [upd, if_true] at hp
            exact ho7 g hg hp
          · simp only [upd, hik, if_false] at hp
            have := (unhide HP).lt g (.inr ⟨i, hi, hp⟩)
            have := hfw.size
            omega
      · have hBb : (B != 0) = true := by simpa using hB0
        have HE := hide ((unhide HGB).1 hB0)
        clear hB0
        go_wp2_with (go_at_call 29; refine (pRefused_any _ _ _).mono ?_; rintro e w6 ⟨r6, rfl, he6, hf6⟩)
        go_ret
        rw [unhide HE]
        exact CmdPost.said (unhide HP) ((unhide HB5).1.fr.quiet hf6) (es_more (unhide HB5).1.fr he6)
end Go.Proofs.YtdibeaipllmifaaGreat
