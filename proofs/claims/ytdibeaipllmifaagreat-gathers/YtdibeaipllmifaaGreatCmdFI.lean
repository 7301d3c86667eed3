/- The pit's command Change. Conditions: the pit lies in memory and is good. -/
import Derived.Test.YtdibeaipllmifaaGreatCmdCE
import Derived.Test.YtdibeaipllmifaaGreatProgM
import Derived.Test.YtdibeaipllmifaaGreatLawLN
import Derived.Test.YtdibeaipllmifaaGreatProgTZ
namespace Go.Proofs.YtdibeaipllmifaaGreat
open Go.RowKit

theorem turnOk_change {c : Cmd} (h : c.what = 3) : turnOk c = (inB c.id 1 1000000000 && inB c.trader 1 1000 && (inB c.price 1 1000000 && inB c.count 1 1000000)) := by
  simp [turnOk, h]
theorem CmdPost.after {w w1 : World} {bx : Nat} {bb : Nat → Nat} {v : Nat → Nat → Value} {s : Ref} {x : List Ord × List Ev} {e : Ending} {w' : World} (hf : Fr No w w1) (hc : CmdPost w1 bx bb v s x e w') : CmdPost w bx bb v s x e w' := by
  obtain ⟨r, v', ro', he, ⟨h1, h2, h3, h4, h5⟩⟩ := hc
  exact ⟨r, v', ro', he, h1, hf.of_no.same h2, fun g hg => (h3 g hg).imp id (fun h => Nat.le_trans hf.size h), es_more hf h4, h5⟩

set_option maxHeartbeats 8000000 in
set_option maxRecDepth 20000 in
theorem change_any (bx : Nat) (bb : Nat → Nat) (v : Nat → Nat → Value) (ro : Nat → Nat) (s : Ref) (c : Cmd) (w : World) (h : PitAt w bx bb v ro s) (hg : Good s) (hwh : c.what = 3) :
    Calls Tryz.prog 25 #[.pointer (some ⟨bx, 0, none⟩), c.val] w (CmdPost w bx bb v s (gTurn s.L c)) := by
  have HP := hide h
  have HG := hide hg
  have HT : Hid (turnOk c = true → _) := fun hok => gTurn_of hg.ids (c := c) hok
  have HOK := hide (turnOk_change hwh)
  obtain ⟨X, hX⟩ : ∃ X, X = gTurn s.L c := ⟨_, rfl⟩
  rw [← hX]
  have HX := hide hX
  have HW := hide hwh
  clear h hg hX hwh
  unfold Cmd.val
  go_enter Tryz.func25, Tryz.ntmps25
  go_wp2_with fail
  generalize hW : World.alloc w _ = W0
  have hB0 : Boxed w W0 w.heap.size c := newAt hW rfl
  generalize hN : w.heap.size = N at *
  clear hW hN
  refine (changeNumbers_any c W0).mono ?_
  rintro e w1 ⟨rfl, hf1⟩
  rw [← unhide HOK]
  have hB1 := hB0.no hf1
  have hN1 := hB1.lt
  obtain ⟨y0, y1, y2, y3, y4, y5, y6, y7, _⟩ := box8 hB1.box
  have HB1 := hide hB1
  clear hB0 hf1 hB1
  cases hok : turnOk c with
  | false =>
    have HE : Hid (X = (s.L, [refusedE c.id 2])) := by show _ = _; rw [unhide HX]; simp [gTurn, hok]
    clear hok
    go_wp2_with (go_at_call 29; refine (pRefused_any _ _ _).mono ?_; rintro e w2 ⟨r2, rfl, he2, hf2⟩)
    go_ret
    rw [unhide HE]
    exact CmdPost.said (unhide HP) ((unhide HB1).fr.quiet hf2) (es_more (unhide HB1).fr he2)
  | true =>
    have hT := unhide HT hok
    have hcnt : c.count ≠ 0 := by
      have := (turnOk_parts hok).2.2 (unhide HW)
      have := inB_true' this.2
      omega
    have HCN := hide hcnt
    clear hok hcnt
    go_wp2_with fail
    refine (pRestingOf_any bx bb v ro s c.trader c.id _ ((unhide HP).no (unhide HB1).fr) (unhide HG)).mono ?_
    rintro e w2 ⟨rfl, hf2⟩
    have hB2 := (unhide HB1).no hf2
    have hN2 := hB2.lt
    obtain ⟨z0, z1, z2, z3, z4, z5, z6, z7, _⟩ := box8 hB2.box
    have HB2 := hide hB2
    clear hB2 hf2 y0 y1 y2 y3 y4 y5 y6 y7
    cases hro : ofT c.trader (restO s.L c.id) with
    | none =>
      rw [hro] at hT
      have HE : Hid (X = (s.L, [refusedE c.id 4])) := by show _ = _; rw [unhide HX]; exact hT
      clear hro hT
      rw [show ordR none = .tuple #[.agg #[.int .i64 0, .int .i64 0, .int .i64 0, .int .i64 0, .int .i64 0, .int .i64 0], .bool false] from rfl]
      go_wp2_with (go_at_call 29; refine (pRefused_any _ _ _).mono ?_; rintro e w3 ⟨r3, rfl, he3, hf3⟩)
      go_ret
      rw [unhide HE]
      have hfa := (unhide HB2).fr.alloc (.cells #[.int .i64 0, .int .i64 0, .int .i64 0, .int .i64 0, .int .i64 0, .int .i64 0] 76)
      exact CmdPost.said (unhide HP) (hfa.quiet hf3) (es_more hfa he3)
    | some x =>
      rw [hro] at hT
      obtain ⟨hx1, hx2, hx3, hx4⟩ := hT
      rw [if_neg (fun h => h (unhide HW)), ← unhide HX] at hx4
      have hfa := (unhide HB2).fr.alloc (.cells #[.int .i64 x.id, .int .i64 x.trader, .int .i64 x.book, .int .i64 x.side, .int .i64 x.price, .int .i64 x.opn] 76)
      have HA := hide (And.intro hfa hx1)
      by_cases hpc : c.price = x.price ∧ c.count ≤ x.opn
      · rw [if_pos hpc] at hx4
        have HE := hide hx4
        have e1 : (c.price == x.price) = true := by simpa using hpc.1
        have e2 : decide (c.count ≤ x.opn) = true := by simpa using hpc.2
        clear hro hx1 hx2 hx3 hx4 hfa hpc
        rw [show ordR (some x) = .tuple #[.agg #[.int .i64 x.id, .int .i64 x.trader, .int .i64 x.book, .int .i64 x.side, .int .i64 x.price, .int .i64 x.opn], .bool true] from rfl]
        go_wp2_with (go_at_call 61; refine (shrink_any bx bb v ro s x c.count _ ((unhide HP).no (unhide HA).1) (unhide HG) (unhide HA).2).mono ?_; rintro e w3 ⟨r3, v3, ro3, rfl, ht3⟩; have HT3 := hide ht3; clear ht3)
        go_ret
        rw [unhide HE]
        exact CmdPost.after (unhide HA).1 ⟨_, v3, ro3, rfl, unhide HT3⟩
      · rw [if_neg hpc] at hx4
        have HE := hide hx4
        cases e1 : (c.price == x.price) with
        | false =>
          clear hro hx1 hx2 hx3 hx4 hfa hpc
          rw [show ordR (some x) = .tuple #[.agg #[.int .i64 x.id, .int .i64 x.trader, .int .i64 x.book, .int .i64 x.side, .int .i64 x.price, .int .i64 x.opn], .bool true] from rfl]
          go_wp2_with (go_at_call 62; refine (replace_any bx bb v ro s x c.price c.count _ ((unhide HP).no (unhide HA).1) (unhide HG) (unhide HA).2 (unhide HCN)).mono ?_; rintro e w3 ⟨r3, v3, ro3, rfl, ht3⟩; have HT3 := hide ht3; clear ht3)
          go_ret
          rw [unhide HE]
          exact CmdPost.after (unhide HA).1 ⟨_, v3, ro3, rfl, unhide HT3⟩
        | true =>
          have e2 : decide (c.count ≤ x.opn) = false := by
            have : c.price = x.price := by simpa using e1
            simp only [decide_eq_false_iff_not]
            exact fun h => hpc ⟨this, h⟩
          clear hro hx1 hx2 hx3 hx4 hfa hpc
          rw [show ordR (some x) = .tuple #[.agg #[.int .i64 x.id, .int .i64 x.trader, .int .i64 x.book, .int .i64 x.side, .int .i64 x.price, .int .i64 x.opn], .bool true] from rfl]
          go_wp2_with (go_at_call 62; refine (replace_any bx bb v ro s x c.price c.count _ ((unhide HP).no (unhide HA).1) (unhide HG) (unhide HA).2 (unhide HCN)).mono ?_; rintro e w3 ⟨r3, v3, ro3, rfl, ht3⟩; have HT3 := hide ht3; clear ht3)
          go_ret
          rw [unhide HE]
          exact CmdPost.after (unhide HA).1 ⟨_, v3, ro3, rfl, unhide HT3⟩
end Go.Proofs.YtdibeaipllmifaaGreat

/- Plain mathematics and memory for CancelAll: one order taken out, and all of a trader's. Conditions: as said in each. -/
namespace Go.Proofs.YtdibeaipllmifaaGreat
open Go.RowKit

/-- What rests without some. -/
def remAll (O : List Ord) (L : List Ord) : List Ord := O.foldl (fun L o => without o.id L) L
theorem remAll_snoc (O : List Ord) (x : Ord) (L : List Ord) : remAll (O ++ [x]) L = without x.id (remAll O L) := by simp [remAll]
theorem remAll_sub : ∀ (O L : List Ord), (remAll O L).Sublist L
  | [], _ => List.Sublist.refl _
  | x :: O, L => (remAll_sub O (without x.id L)).trans List.filter_sublist
theorem mem_remAll : ∀ {O L : List Ord} {y : Ord}, y ∈ remAll O L ↔ y ∈ L ∧ y.id ∉ O.map Ord.id
  | [], L, y => by simp [remAll]
  | x :: O, L, y => by
    show y ∈ remAll O (without x.id L) ↔ _
    rw [mem_remAll, without, List.mem_filter]
    simp only [bne_iff_ne, ne_eq, List.map_cons, List.mem_cons, not_or]
    exact ⟨fun h => ⟨h.1.1, h.1.2, h.2⟩, fun h => ⟨⟨h.1, h.2.1⟩, h.2.2⟩⟩
theorem remAll_filter : ∀ (O L : List Ord), remAll O L = L.filter fun o => decide (o.id ∉ O.map Ord.id)
  | [], L => (List.filter_eq_self.2 fun o _ => by simp).symm
  | x :: O, L => by
    show remAll O (without x.id L) = _
    rw [remAll_filter, without, List.filter_filter]
    refine List.filter_congr fun o _ => ?_
    rw [Bool.eq_iff_iff]
    simp only [Bool.and_eq_true, decide_eq_true_eq, bne_iff_ne, ne_eq, List.map_cons, List.mem_cons, not_or]
    exact ⟨fun h => ⟨h.2, h.1⟩, fun h => ⟨h.2, h.1⟩⟩

/-- A trader's orders in a book. -/
def ofBook (L : List Ord) (k : Nat) (t : Int) : List Ord := (inBook L k 0).filter (isOf t) ++ (inBook L k 1).filter (isOf t)
theorem mem_ofBook {L : List Ord} {k : Nat} {t : Int} {o : Ord} : o ∈ ofBook L k t ↔ o ∈ L ∧ o.book = (k : Int) + 1 ∧ (o.side = 1 ∨ o.side = 2) ∧ o.trader = t := by
  unfold ofBook
  rw [List.mem_append, List.mem_filter, List.mem_filter]
  unfold inBook
  rw [mem_sideOf, mem_sideOf]
  simp only [inSide, isOf, Bool.and_eq_true, beq_iff_eq, show ((0 : Nat) : Int) + 1 = 1 from rfl, show ((1 : Nat) : Int) + 1 = 2 from rfl]
  constructor
  · rintro (⟨⟨h1, h2, h3⟩, h4⟩ | ⟨⟨h1, h2, h3⟩, h4⟩)
    · exact ⟨h1, h2, .inl h3, h4⟩
    · exact ⟨h1, h2, .inr h3, h4⟩
  · rintro ⟨h1, h2, h3 | h3, h4⟩
    · exact .inl ⟨⟨h1, h2, h3⟩, h4⟩
    · exact .inr ⟨⟨h1, h2, h3⟩, h4⟩
theorem ofBook_nodup {L : List Ord} (h : (L.map Ord.id).Nodup) (k : Nat) (t : Int) : ((ofBook L k t).map Ord.id).Nodup := by
  have hu := inBook_uniq h k
  unfold Uniq at hu
  rw [← List.map_append] at hu
  exact hu.sublist ((List.filter_sublist.append List.filter_sublist).map Ord.id)
theorem cBook_of {L : List Ord} (h : (L.map Ord.id).Nodup) {E : List Ev} {k : Nat} {t : Int} : cBook (((k + 1 : Nat)) : Int) t (L, E) = (remAll (ofBook L k t) L, E ++ (ofBook L k t).map goneO) := by
  rw [cBook_side]
  refine Prod.ext ?_ rfl
  simp only
  rw [remAll_filter]
  refine List.filter_congr fun o ho => ?_
  rw [Bool.eq_iff_iff]
  have key : o.id ∈ (ofBook L k t).map Ord.id ↔ (o.book = ((k + 1 : Nat) : Int) ∧ (o.side = 1 ∨ o.side = 2)) ∧ o.trader = t := by
    constructor
    · intro hm
      obtain ⟨y, hy, e⟩ := List.mem_map.1 hm
      have h1 := mem_ofBook.1 hy
      have := id_inj h h1.1 ho e
      subst this
      exact ⟨⟨h1.2.1, h1.2.2.1⟩, h1.2.2.2⟩
    · rintro ⟨⟨h1, h2⟩, h3⟩
      exact List.mem_map_of_mem (mem_ofBook.2 ⟨ho, h1, h2, h3⟩)
  simp only [decide_eq_true_eq, key, isOf, Bool.not_eq_true', Bool.and_eq_false_iff, Bool.or_eq_false_iff, beq_eq_false_iff_ne, ne_eq]
  constructor
  · rintro ((h1 | h1) | h1) ⟨⟨h2, h3⟩, h4⟩
    · exact h1 h2
    · exact h3.elim h1.1 h1.2
    · exact h1 h4
  · intro hn
    by_cases h1 : o.book = ((k + 1 : Nat) : Int)
    · by_cases h4 : o.trader = t
      · refine .inl (.inr ⟨fun h2 => hn ⟨⟨h1, .inl h2⟩, h4⟩, fun h2 => hn ⟨⟨h1, .inr h2⟩, h4⟩⟩)
      · exact .inr h4
    · exact .inl (.inl h1)

/-- One order less, one event more. -/
theorem CmdTo.rem {W0 wi wa w1 w2 w3 : World} {bx : Nat} {bb : Nat → Nat} {v vj : Nat → Nat → Value} {roj : Nat → Nat} {s : Ref} {L : List Ord} {E : List Ev} {l : Value} (h : CmdTo W0 wi bx bb v vj roj s (L, E) l) (hn : (L.map Ord.id).Nodup) {k : Nat} (hk : k < 8) {x : Ord} (hx : x ∈ L) (hb : x.book = (k : Int) + 1)
    (ha : Fr No wi wa) {v1 : Nat → Value} (ht : BTo wa w1 (bb k) bx (s.tr (k + 1)) (s.td (k + 1)) (vj k) v1 (fun j => without x.id (inBook L k j))) (h2 : Fr No w1 w2) {g n c : Nat} (h3 : Fr (OwnS l) w2 w3) (hes : Es w3 W0.heap.size (.slice (some ⟨g, 0, none⟩) n c) (E ++ [goneO x])) (hat : OwnS l g ∨ w1.heap.size ≤ g) :
    ∃ ro', CmdTo W0 w3 bx bb v (upd vj k v1) ro' s (without x.id L, E ++ [goneO x]) (.slice (some ⟨g, 0, none⟩) n c) ∧ Fr (fun q => PS bx bb vj q ∨ OwnS l q) wi w3 ∧ ∀ q, PS bx bb (upd vj k v1) q → PS bx bb vj q ∨ wi.heap.size ≤ q := by
  obtain ⟨ro1, hp1, hf1, hn1⟩ := PitAt.removed (s := { s with L := L }) (h.pit.no ha) hn hk hx hb ht
  have hlt := h.pit.lt
  have hll : ∀ q, OwnS l q → W0.heap.size ≤ q ∧ q < wi.heap.size := h.evs.lt
  have hnn : ∀ q, PS bx bb (upd vj k v1) q → PS bx bb vj q ∨ wi.heap.size ≤ q := fun q hq => (hn1 q hq).imp id (fun h => Nat.le_trans ha.size h)
  have hdis : ∀ q, OwnS l q → ¬ PS bx bb (upd vj k v1) q := fun q hq hp => by
    rcases hnn q hp with h1 | h1
    · exact h.own q hq h1
    · have := (hll q hq).2; omega
  have hs1 := hf1.size
  have hs2 := ha.size
  have hfr : Fr (fun q => PS bx bb vj q ∨ OwnS l q) wi w3 :=
    (((ha.of_no.same (hf1.mono fun _ _ e => .inl e)).quiet h2).same (h3.mono fun _ _ e => .inr e))
  refine ⟨ro1, ⟨(hp1.no h2).fr h3 (fun q hq e => hdis q e hq), ?_, fun q hq => ?_, hes, fun q hq hp => ?_⟩, hfr, hnn⟩
  · refine h.fr.trans hfr (fun q hq e => ?_)
    rcases e with e | e
    · exact (h.new q e).elim id (fun h => by omega)
    · have := (hll q e).1; omega
  · rcases hnn q hq with h1 | h1
    · exact h.new q h1
    · right; have := h.fr.size; omega
  · have e := own_eq' hq
    subst e
    rcases hat with h1 | h1
    · exact hdis _ h1 hp
    · have := hp1.lt _ hp; omega
end Go.Proofs.YtdibeaipllmifaaGreat

/- The pit's command CancelAll. Conditions: the pit lies in memory and is good. -/
namespace Go.Proofs.YtdibeaipllmifaaGreat
open Go.RowKit

theorem cTo_nodup {s : Ref} (hg : Good s) (t : Int) (k : Nat) : ((cTo s.L t k).1.map Ord.id).Nodup := hg.ids.sublist (cTo_sub.map Ord.id)
theorem cTo_next {s : Ref} (hg : Good s) (t : Int) (k : Nat) : cTo s.L t (k + 1) = (remAll (ofBook (cTo s.L t k).1 k t) (cTo s.L t k).1, (cTo s.L t k).2 ++ (ofBook (cTo s.L t k).1 k t).map goneO) := by
  show cBook _ t (cTo s.L t k) = _
  rw [show cTo s.L t k = ((cTo s.L t k).1, (cTo s.L t k).2) from rfl, cBook_of (cTo_nodup hg t k)]

theorem CmdTo.no {W0 wi w1 : World} {bx : Nat} {bb : Nat → Nat} {v vj : Nat → Nat → Value} {roj : Nat → Nat} {s : Ref} {x : List Ord × List Ev} {l : Value} (h : CmdTo W0 wi bx bb v vj roj s x l) (hf : Fr No wi w1) : CmdTo W0 w1 bx bb v vj roj s x l :=
  ⟨h.pit.no hf, h.fr.quiet hf, h.new, own_fr h.evs hf (fun _ _ => id), h.own⟩
theorem take_notin {O : List Ord} (h : (O.map Ord.id).Nodup) {j : Nat} (hj : j < O.length) : O[j].id ∉ (O.take j).map Ord.id := fun hm => by
  have e : O.map Ord.id = (O.take j).map Ord.id ++ (O.drop j).map Ord.id := by rw [← List.map_append, List.take_append_drop]
  rw [e] at h
  refine (List.nodup_append.1 h).2.2 _ hm _ (List.mem_map_of_mem (f := Ord.id) (a := O[j]) ?_) rfl
  rw [List.drop_eq_getElem_cons hj]
  exact List.mem_cons_self

set_option maxHeartbeats 8000000 in
set_option maxRecDepth 20000 in
theorem cancelAll_any (bx : Nat) (bb : Nat → Nat) (v : Nat → Nat → Value) (ro : Nat → Nat) (s : Ref) (c : Cmd) (w : World) (h : PitAt w bx bb v ro s) (hg : Good s) :
    Calls Tryz.prog 26 #[.pointer (some ⟨bx, 0, none⟩), c.val] w (CmdPost w bx bb v s (if inB c.trader 1 1000 = true then cTo s.L c.trader 8 else (s.L, [refusedE 0 2]))) := by
  have HP := hide h
  have HG := hide hg
  clear h hg
  unfold Cmd.val
  cases hb : inB c.trader 1 1000 with
  | false =>
    have HB := hide hb
    clear hb
    simp only [Bool.false_eq_true, if_false]
    go_enter Tryz.func26, Tryz.ntmps26
    go_wp2_with (first
      | (go_at_call 56; refine (isTrader_any c.trader _).mono ?_; rintro e w2 ⟨rfl, rfl⟩; rw [unhide HB])
      | (go_at_call 29; refine (pRefused_any _ _ _).mono ?_; rintro e w2 ⟨r2, rfl, he2, hf2⟩))
    go_ret
    have hfa := (Fr.refl No w).alloc (.cells #[.int .i64 c.what, .int .i64 c.id, .int .i64 c.trader, .int .i64 c.book, .int .i64 c.side, .int .i64 c.kind, .int .i64 c.price, .int .i64 c.count] 45)
    exact CmdPost.said (unhide HP) (hfa.quiet hf2) (es_more hfa he2)
  | true =>
    have HB := hide hb
    clear hb
    simp only [if_true]
    have c0 := (unhide HP).cellB 0 (by omega)
    have c1 := (unhide HP).cellB 1 (by omega)
    have c2 := (unhide HP).cellB 2 (by omega)
    have c3 := (unhide HP).cellB 3 (by omega)
    have c4 := (unhide HP).cellB 4 (by omega)
    have c5 := (unhide HP).cellB 5 (by omega)
    have c6 := (unhide HP).cellB 6 (by omega)
    have c7 := (unhide HP).cellB 7 (by omega)
    have hbx : bx < w.heap.size := (unhide HP).lt _ (.inl rfl)
    go_enter Tryz.func26, Tryz.ntmps26
    go_wp2_with (go_at_call 56; refine (isTrader_any c.trader _).mono ?_; rintro e w2 ⟨rfl, rfl⟩; rw [unhide HB])
    clear c0 c1 c2 c3 c4 c5 c6 c7
    generalize hW : World.alloc w _ = W0
    have hB0 : Boxed w W0 w.heap.size c := newAt hW rfl
    generalize hN : w.heap.size = N at *
    have HN := hide hN
    clear hW hN
    have hp0 := (unhide HP).no hB0.fr
    have hNp : ¬ PS bx bb v N := fun e => by have := (unhide HP).lt _ e; have := unhide HN; omega
    have HB0 := hide (And.intro hB0 (And.intro hp0 hNp))
    clear hB0 hp0 hNp
    go_loopw [5, 19] (fun l i wr => ∃ k : Nat, k ≤ 8 ∧ i = .int .i64 k ∧ ∃ vk rok, CmdTo W0 wr bx bb v vk rok s (cTo s.L c.trader k) l) (fun _ i _ => 8 - (intOf i).toNat)
    case atStart => exact ⟨0, by omega, rfl, v, ro, (unhide HB0).2.1, Fr.refl _ _, fun _ hq => .inl hq, World.ownsRow_nil _ _ _ _, fun q hq => by simp [OwnS, Value.ownBlock] at hq⟩
    case round =>
      obtain ⟨k, hk, rfl, vk, rok, hm⟩ := hrel
      by_cases hlt : k < 8
      · have hix := fun w => run_books bb w k hlt
        unfold booksV at hix
        have hbox := hm.fr.heap (unhide HB0).1.box (unhide HB0).2.2
        obtain ⟨y0, y1, y2, y3, y4, y5, y6, y7, _⟩ := box8 hbox
        have hnx := cTo_next (unhide HG) c.trader k
        have hnd := cTo_nodup (unhide HG) c.trader k
        have hlen := @cTo_len s.L c.trader k
        have hg16 := (unhide HG).len
        generalize hX : cTo s.L c.trader k = X at *
        obtain ⟨Lk, Ek⟩ := X
        simp only at hnx hnd hlen
        have hpb := hm.pit.book k hlt
        have hl0 := hpb.len 0 (by omega)
        have hl1 := hpb.len 1 (by omega)
        have HNX := hide hnx
        have HND := hide hnd
        have HM := hide (And.intro hm hbox)
        have HPB := hide hpb
        clear hm hbox hnx hnd hX hpb
        go_wp2_with fail
        refine (bOf_any (bb k) bx _ _ (vk k) (inBook Lk k) c.trader wr (unhide HPB)).mono ?_
        rintro e w1 ⟨rO, rfl, hoO, hf1⟩
        have hm1 := (unhide HM).1.no hf1
        obtain ⟨O, hO⟩ : ∃ O, O = ofBook Lk k c.trader := ⟨_, rfl⟩
        have hoO : Os w1 wr.heap.size rO O := by rw [hO]; exact hoO
        have hOl : O.length ≤ 2000 := by
          rw [hO]
          have h1 : ((inBook Lk k 0).filter (isOf c.trader)).length ≤ (inBook Lk k 0).length := List.length_filter_le _ _
          have h2 : ((inBook Lk k 1).filter (isOf c.trader)).length ≤ (inBook Lk k 1).length := List.length_filter_le _ _
          simp only [ofBook, List.length_append]
          omega
        have hrd : ∀ g, OwnS rO g → ¬ PS bx bb vk g ∧ ¬ OwnS u5 g := fun g hg => by
          have h1 := (hoO.lt g hg).1
          exact ⟨fun e => by have := (unhide HM).1.pit.lt g e; omega, fun e => by have := ((unhide HM).1.evs.lt g e).2; omega⟩
        obtain ⟨aO, capO, rfl, _⟩ := own_form hoO
        have HO := hide hO
        have hoO0 : Os w1 0 (.slice aO O.length capO) O := own_base hoO (fun _ _ => Nat.zero_le _)
        have HS := hide (And.intro hm1 (And.intro hoO0 hrd))
        have hEk : Ek.length ≤ 1600 := by omega
        clear hoO hoO0 hf1 hm1 hrd hO hlen hg16 hl0 hl1 y0 y1 y2 y3 y4 y5 y6 y7
        generalize hnn : O.length = n at *
        have Hn := hide hnn
        clear hnn
        go_wp2
        go_loopw [5, 27] (fun l ci wi => ∃ j : Nat, j ≤ n ∧ ci = .int .i64 j ∧ ∃ vj roj, CmdTo W0 wi bx bb v vj roj s (remAll (O.take j) Lk, Ek ++ (O.take j).map goneO) l ∧ Os wi 0 (.slice aO n capO) O ∧ ∀ g, OwnS (.slice aO n capO) g → ¬ PS bx bb vj g ∧ ¬ OwnS l g) (fun _ ci _ => n - (intOf ci).toNat)
        case atStart => exact ⟨0, Nat.zero_le _, rfl, vk, rok, by simpa [remAll] using (unhide HS).1, (unhide HS).2.1, (unhide HS).2.2⟩
        case round =>
          obtain ⟨j, hj, rfl, vj, roj, hm, hoO, hrd⟩ := hrel
          by_cases hjn : j < n
          · have hjl : j < O.length := by rw [unhide Hn]; exact hjn
            obtain ⟨g, rfl, hgl, _, x0, x1, x2, x3, x4, x5, _⟩ := os_at hoO j hjl
            have hxm : O[j] ∈ ofBook Lk k c.trader := by rw [← unhide HO]; exact List.getElem_mem hjl
            obtain ⟨hx1, hx2, -, -⟩ := mem_ofBook.1 hxm
            have hond : (O.map Ord.id).Nodup := by rw [unhide HO]; exact ofBook_nodup (unhide HND) k c.trader
            have hxr : O[j] ∈ remAll (O.take j) Lk := mem_remAll.2 ⟨hx1, take_notin hond hjl⟩
            have hndj : ((remAll (O.take j) Lk).map Ord.id).Nodup := (unhide HND).sublist ((remAll_sub _ _).map Ord.id)
            have hst : O.take (j + 1) = O.take j ++ [O[j]] := List.take_succ_eq_append_getElem hjl
            have hEl : (Ek ++ (O.take j).map goneO).length ≤ 4000 := by
              have : (O.take j).length ≤ j := List.length_take_le _ _
              simp only [List.length_append, List.length_map]
              omega
            have hbk : O[j].book = (k : Int) + 1 := hx2
            generalize hL : remAll (O.take j) Lk = Lj at *
            generalize hE : Ek ++ (O.take j).map goneO = Ej at *
            have HST : Hid (remAll (O.take (j + 1)) Lk = without O[j].id Lj ∧ Ek ++ (O.take (j + 1)).map goneO = Ej ++ [goneO O[j]]) := by
              constructor
              · rw [hst, remAll_snoc, hL]
              · rw [hst, List.map_append, ← List.append_assoc, hE]; rfl
            clear hst hL hE hxm hond hx1 hx2
            generalize O[j] = x at *
            have HMJ := hide (And.intro hm (And.intro hoO (And.intro hrd (And.intro hxr (And.intro hndj hbk)))))
            clear hm hoO hrd hxr hndj hbk
            go_wp2_with fail
            generalize hWa : World.alloc wr _ = Wa
            have hfa : Fr No wr Wa := by rw [← hWa]; exact (Fr.refl _ _).alloc _
            have hqa : Wa.heap[wr.heap.size]? = some (.cells #[.int .i64 x.id, .int .i64 x.trader, .int .i64 x.book, .int .i64 x.side, .int .i64 x.price, .int .i64 x.opn] 76 (0, 0)) := by rw [← hWa]; exact heap_alloc_new wr _
            clear hWa
            have HFA := hide (And.intro hfa hqa)
            clear hfa hqa
            refine (bRemove_any (bb k) bx _ _ (vj k) (inBook Lj k) x.id Wa (((unhide HMJ).1.pit.book k hlt).no (unhide HFA).1) (inBook_uniq (unhide HMJ).2.2.2.2.1 k)).mono ?_
            rintro e w5 ⟨rfl, v5, ht5⟩
            have hq5 := ht5.fr.heap (unhide HFA).2 (fun e => by have := (unhide HMJ).1.pit.lt _ (.inr ⟨k, hlt, e⟩); omega)
            obtain ⟨r0, r1, r2, r3, r4, r5, _⟩ := box6 hq5
            have hQ5 := lt_of_heap hq5
            have HT5 := hide ht5
            clear ht5 hq5
            go_wp2_with fail
            refine (eGone_any x w5).mono ?_
            rintro e w6 ⟨rfl, hf6⟩
            have HF6 := hide hf6
            have hs6 := hf6.size
            clear hf6
            rw [show (goneO x).val = .agg #[.int .i64 5, .int .i64 x.id, .int .i64 0, .int .i64 0, .int .i64 x.opn, .int .i64 0] from rfl]
            have hsW : W0.heap.size ≤ w6.heap.size := by
              have h1 := (unhide HMJ).1.fr.size
              have h2 := (unhide HFA).1.size
              have h3 := (unhide HT5).fr.size
              omega
            have hes6 : Es w6 W0.heap.size u5 Ej := own_fr (own_fr (own_fr (unhide HMJ).1.evs (unhide HFA).1 (fun _ _ => id)) (unhide HT5).fr (fun q hq e => (unhide HMJ).1.own q hq (.inr ⟨k, hlt, e⟩))) (unhide HF6) (fun _ _ => id)
            have HES := hide hes6
            clear hes6
            go_wp2_with (at_builtin; refine app_ev rfl (.tmp 35) (.tmp 38) rfl W0.heap.size _ Ej (own_fr (S := No) (unhide HES) ((Fr.refl _ _).alloc _) (fun _ _ => id)) rfl ⟨w6.heap.size, 0, none⟩ 1 1 [goneO x] rfl rfl (by simp) (new_cells w6 (goneO x).cells _) (by simp; omega) (by simp; omega) ?_; intro g9 c9 w9 hown9 hfr9 hat9 hlt9)
            go_roundw
            case rel =>
              obtain ⟨hm, hoO, hrd, hxr, hndj, hbk⟩ := unhide HMJ
              obtain ⟨ro9, hc9, hf9, hn9⟩ := hm.rem hndj hlt hxr hbk (unhide HFA).1 (unhide HT5) ((unhide HF6).alloc _) hfr9 hown9 (hat9.imp id (fun h => by have : g9 = w6.heap.size + 1 := (by simpa using h); omega))
              refine ⟨j + 1, by omega, by go_num, upd vj k v5, ro9, ?_, own_fr hoO hf9 (fun q hq e => e.elim (hrd q hq).1 (hrd q hq).2), fun q hq => ⟨fun e => ?_, fun e => ?_⟩⟩
              · rw [(unhide HST).1, (unhide HST).2]; exact hc9
              · have := (hoO.lt q hq).2
                rcases hn9 q e with h1 | h1
                · exact (hrd q hq).1 h1
                · omega
              · have e2 := own_eq' e
                subst e2
                have := (hoO.lt _ hq).2
                have h5 := (unhide HT5).fr.size
                have h6 := (unhide HFA).1.size
                rcases hat9 with h1 | h1
                · exact (hrd _ hq).2 h1
                · have : g9 = w6.heap.size + 1 := by simpa using h1
                  omega
            case measure => simp [intOf]; omega
          · have hjn2 : O.take j = O := List.take_of_length_le (by have := unhide Hn; omega)
            rw [hjn2, unhide HO, ← unhide HNX] at hm
            have HM9 := hide hm
            clear hm hoO hrd hjn2
            go_wp2
            go_roundw
            case rel => exact ⟨k + 1, by omega, by go_num, vj, roj, unhide HM9⟩
            case measure => simp [intOf]; omega
      · have hk8 : k = 8 := by omega
        rw [hk8] at hm
        have HM := hide hm
        clear hm hk8
        go_wp2
        go_ret
        exact CmdPost.after (unhide HB0).1.fr ⟨_, vk, rok, rfl, unhide HM⟩
end Go.Proofs.YtdibeaipllmifaaGreat

/- The program's pit keeps PitLaw: Do in books that gather, and what is asked. No condition besides PitLaw's own. -/
namespace Go.Proofs.YtdibeaipllmifaaGreat
open Go.RowKit

set_option maxHeartbeats 8000000 in
set_option maxRecDepth 20000 in
theorem pDo_any (bx : Nat) (bb : Nat → Nat) (v : Nat → Nat → Value) (ro : Nat → Nat) (s : Ref) (c : Cmd) (w : World) (h : PitAt w bx bb v ro s) (hg : Good s) (hwh : c.what ≤ 4) :
    Calls Tryz.prog 12 #[.pointer (some ⟨bx, 0, none⟩), c.val] w (CmdPost w bx bb v s (gDo s.L c)) := by
  have HP := hide h
  have HG := hide hg
  clear h hg
  obtain ⟨X, hX⟩ : ∃ X, X = gDo s.L c := ⟨_, rfl⟩
  rw [← hX]
  have HX := hide hX
  clear hX
  have hw5 : (c.what == 5) = false := by simp; omega
  have hw6 : (c.what == 6) = false := by simp; omega
  unfold Cmd.val
  go_enter Tryz.func12, Tryz.ntmps12
  go_wp2_with fail
  generalize hW : World.alloc w _ = W0
  have hB0 : Boxed w W0 w.heap.size c := newAt hW rfl
  generalize hN : w.heap.size = N at *
  clear hW hN
  have hN1 := hB0.lt
  obtain ⟨y0, y1, y2, y3, y4, y5, y6, y7, _⟩ := box8 hB0.box
  have HB0 := hide hB0
  clear hB0
  refine (ready_any bx bb v ro s W0 ((unhide HP).no (unhide HB0).fr)).mono ?_
  rintro e w0 ⟨rfl, rfl⟩
  by_cases h1 : c.what = 1
  · have b1 : (c.what == 1) = true := by simpa using h1
    have HE : Hid (X = gNew s.L c) := by show _ = _; rw [unhide HX]; simp [gDo, h1]
    clear h1
    go_wp2_with (go_at_call 23; refine (enter_any bx bb v ro s c _ ((unhide HP).no (unhide HB0).fr) (unhide HG)).mono ?_; rintro e w3 ⟨r3, v3, ro3, rfl, ht3⟩; have HT3 := hide ht3; clear ht3)
    go_ret
    rw [unhide HE]
    exact CmdPost.after (unhide HB0).fr ⟨_, v3, ro3, rfl, unhide HT3⟩
  · have b1 : (c.what == 1) = false := by simpa using h1
    by_cases h2 : c.what = 2
    · have b2 : (c.what == 2) = true := by simpa using h2
      have HE : Hid (X = gTurn s.L c) := by show _ = _; rw [unhide HX]; simp [gDo, h2]
      have HW : Hid (c.what ≠ 3) := by show _ ≠ _; omega
      clear h1 h2
      go_wp2_with (go_at_call 24; refine (cancel_any bx bb v ro s c _ ((unhide HP).no (unhide HB0).fr) (unhide HG) (unhide HW)).mono ?_; rintro e w3 ⟨r3, v3, ro3, rfl, ht3⟩; have HT3 := hide ht3; clear ht3)
      go_ret
      rw [unhide HE]
      exact CmdPost.after (unhide HB0).fr ⟨_, v3, ro3, rfl, unhide HT3⟩
    · have b2 : (c.what == 2) = false := by simpa using h2
      by_cases h3 : c.what = 3
      · have b3 : (c.what == 3) = true := by simpa using h3
        have HE : Hid (X = gTurn s.L c) := by show _ = _; rw [unhide HX]; simp [gDo, h3]
        have HW := hide h3
        clear h1 h2 h3
        go_wp2_with (go_at_call 25; refine (change_any bx bb v ro s c _ ((unhide HP).no (unhide HB0).fr) (unhide HG) (unhide HW)).mono ?_; rintro e w3 ⟨r3, v3, ro3, rfl, ht3⟩; have HT3 := hide ht3; clear ht3)
        go_ret
        rw [unhide HE]
        exact CmdPost.after (unhide HB0).fr ⟨_, v3, ro3, rfl, unhide HT3⟩
      · have b3 : (c.what == 3) = false := by simpa using h3
        by_cases h4 : c.what = 4
        · have b4 : (c.what == 4) = true := by simpa using h4
          have HE : Hid (X = if inB c.trader 1 1000 = true then cTo s.L c.trader 8 else (s.L, [refusedE 0 2])) := by show _ = _; rw [unhide HX]; simp [gDo, h4]
          clear h1 h2 h3 h4
          go_wp2_with (go_at_call 26; refine (cancelAll_any bx bb v ro s c _ ((unhide HP).no (unhide HB0).fr) (unhide HG)).mono ?_; rintro e w3 ⟨r3, v3, ro3, rfl, ht3⟩; have HT3 := hide ht3; clear ht3)
          go_ret
          rw [unhide HE]
          exact CmdPost.after (unhide HB0).fr ⟨_, v3, ro3, rfl, unhide HT3⟩
        · have b4 : (c.what == 4) = false := by simpa using h4
          have HE : Hid (X = (s.L, [refusedE 0 1])) := by show _ = _; rw [unhide HX]; simp [gDo, h1, h2, h3, h4]
          clear h1 h2 h3 h4
          go_wp2_with (go_at_call 29; refine (pRefused_any _ _ _).mono ?_; rintro e w2 ⟨r2, rfl, he2, hf2⟩)
          go_ret
          rw [unhide HE]
          exact CmdPost.said (unhide HP) ((unhide HB0).fr.quiet hf2) (es_more (unhide HB0).fr he2)

/-- The program's pit, as PitLaw asks for it. -/
def PRep (w : World) (bx : Nat) (F : Nat → Prop) (s : Ref) : Prop := ∃ bb v ro, PitAt w bx bb v ro s ∧ F = PS bx bb v

theorem vol_none {s : Ref} (hg : Good s) : ∀ k, volTo s.td k = 0
  | 0 => rfl
  | k + 1 => by rw [volTo, vol_none hg k, hg.td]; rfl

theorem pit_law : PitLaw PRep where
  fr := by
    rintro S w w' bx F s ⟨bb, v, ro, h, rfl⟩ hf hS
    exact ⟨bb, v, ro, h.fr hf hS, rfl⟩
  lt := by
    rintro w bx F s ⟨bb, v, ro, h, rfl⟩ k hk
    exact h.lt k hk
  new_ := fun w => (pNew_any w).mono fun e w' ⟨bb, v, ro, he, hp, hf, hk⟩ => ⟨w.heap.size, PS w.heap.size bb v, he, ⟨bb, v, ro, hp, rfl⟩, hf, hk⟩
  do_ := by
    rintro w bx F s c ⟨bb, v, ro, h, rfl⟩ hg hw
    exact (pDo_any bx bb v ro s c w h hg hw).mono fun e w' ⟨r, v', ro', he, ht⟩ => ⟨r, PS bx bb v', he, ⟨bb, v', ro', ht.pit, rfl⟩, ht.fr, ht.new, ht.evs, ht.own⟩
  depthBad := by
    rintro w bx F s b sd most _ _ hbad
    exact pDepth_bad bx b sd most w hbad
  depth_ := by
    rintro w bx F s b sd most ⟨bb, v, ro, h, rfl⟩ hg hb hsd
    exact pDepth_any bx bb v ro s b sd most w h hg hb hsd
  order_ := by
    rintro w bx F s id ⟨bb, v, ro, h, rfl⟩ hg
    exact pOrder_any bx bb v ro s id w h hg
  look_ := by
    rintro w bx F s b ⟨bb, v, ro, h, rfl⟩ _
    exact pLook_any bx bb v ro s b w h
  volume_ := by
    rintro w bx F s ⟨bb, v, ro, h, rfl⟩ hg
    exact (pVolume_any bx bb v ro s w h).mono fun e w' ⟨he, hw⟩ => ⟨by rw [he, vol_none hg], hw ▸ Fr.refl _ _⟩
end Go.Proofs.YtdibeaipllmifaaGreat
