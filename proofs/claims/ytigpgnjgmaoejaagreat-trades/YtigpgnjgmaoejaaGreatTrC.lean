/- Contract of a book's meet. Conditions: the book and the total lie in memory, at most 1000 orders on a side, what is open of each is from 1 to 1000000. -/
import Derived.Test.YtigpgnjgmaoejaaGreatTrAB
import Derived.Deep.LoopGhost
namespace Go.Proofs.YtigpgnjgmaoejaaGreat
open Go.RowKit

set_option maxHeartbeats 400000 in
theorem eTraded_any (x y : Ord) (p n : Int) (w : World) : Calls Tryz.prog 158 #[x.val, y.val, .int .i64 p, .int .i64 n] w fun e w' => e = .returned (tradedE x.id y.id p n).val ∧ Fr No w w' := by
  unfold Ord.val
  go_enter Tryz.func158, Tryz.ntmps158
  go_wp2
  exact bodyPost_ret (v := (tradedE x.id y.id p n).val) (by simp [results, Tryz.results158, go_sem, tradedE, Ev.val]) rfl ⟨rfl, (((Fr.refl _ _).alloc _).alloc _).alloc _⟩

/-- What holds of memory between two that are met. N: the order's box. -/
structure BMid (w wr : World) (b bx N : Nat) (tr : Bool) (c : Array Value) (v v' : Nat → Value) (l : Value) (x : Ord) (M : Nat → List Ord) (td vol o : Int) (E : List Ev) : Prop where
  px : PX wr b bx tr td v' M c vol
  fr : Fr (XS b bx v) w wr
  new : ∀ g, BS b v' g → BS b v g ∨ N < g
  evs : Es wr N l E
  el : ∀ g, OwnS l g → N < g ∧ ¬ BS b v' g
  box : wr.heap[N]? = some (.cells #[.int .i64 x.id, .int .i64 x.trader, .int .i64 x.book, .int .i64 x.side, .int .i64 x.price, .int .i64 o] 95 (0, 0))
/-- Where the order's box lies. -/
structure BAt (w : World) (b bx N : Nat) (v : Nat → Value) : Prop where
  n : w.heap.size = N
  lt : ∀ g, XS b bx v g → g < N

theorem BMid.no {w wr wr' : World} {b bx N : Nat} {tr : Bool} {c : Array Value} {v v' : Nat → Value} {l : Value} {x : Ord} {M : Nat → List Ord} {td vol o : Int} {E : List Ev} (h : BMid w wr b bx N tr c v v' l x M td vol o E) (hf : Fr No wr wr') : BMid w wr' b bx N tr c v v' l x M td vol o E :=
  ⟨h.px.no hf, h.fr.quiet hf, h.new, own_fr h.evs hf (fun _ _ => id), h.el, hf.heap h.box id⟩
theorem BMid.ne {w wr : World} {b bx N : Nat} {tr : Bool} {c : Array Value} {v v' : Nat → Value} {l : Value} {x : Ord} {M : Nat → List Ord} {td vol o : Int} {E : List Ev} (h : BMid w wr b bx N tr c v v' l x M td vol o E) (ha : BAt w b bx N v) : ∀ g, XS b bx v' g → g ≠ N := by
  rintro g (rfl | hg) e
  · have := ha.lt g (.inl rfl); omega
  · rcases h.new g hg with h1 | h1
    · have := ha.lt g (.inr h1); omega
    · omega
/-- The book, the total is another. -/
theorem BMid.to {w wr w2 : World} {b bx N : Nat} {tr : Bool} {c : Array Value} {v v' v2 : Nat → Value} {l : Value} {x : Ord} {M M2 : Nat → List Ord} {td vol td2 vol2 o : Int} {E : List Ev} (h : BMid w wr b bx N tr c v v' l x M td vol o E) (ha : BAt w b bx N v)
    (hp : PX w2 b bx tr td2 v2 M2 c vol2) (hf : Fr (XS b bx v') wr w2) (hn : ∀ g, BS b v2 g → BS b v' g ∨ wr.heap.size ≤ g) : BMid w w2 b bx N tr c v v2 l x M2 td2 vol2 o E := by
  have hbl := lt_of_heap h.box
  refine ⟨hp, h.fr.trans hf fun q hq e => ?_, fun g hg => ?_, own_fr h.evs hf fun g hg e => ?_, fun g hg => ⟨(h.el g hg).1, fun e => ?_⟩, hf.heap h.box fun e => h.ne ha N e rfl⟩
  · rcases e with e | e
    · exact .inl e
    · rcases h.new q e with h1 | h1
      · exact .inr h1
      · have := ha.n; omega
  · rcases hn g hg with h1 | h1
    · exact h.new g h1
    · exact .inr (by omega)
  · rcases e with e | e
    · have := (h.el g hg).1; have := ha.lt g (.inl e); omega
    · exact (h.el g hg).2 e
  · rcases hn g e with h1 | h1
    · exact (h.el g hg).2 h1
    · have := (h.evs.lt g hg).2; omega
theorem BMid.side {w wr w2 : World} {b bx N : Nat} {tr : Bool} {c : Array Value} {v v' v2 : Nat → Value} {l : Value} {x : Ord} {M M2 : Nat → List Ord} {td vol o : Int} {E : List Ev} (h : BMid w wr b bx N tr c v v' l x M td vol o E) (ha : BAt w b bx N v)
    (ht : BTo wr w2 b bx tr td v' v2 M2) : BMid w w2 b bx N tr c v v2 l x M2 td vol o E :=
  h.to ha (h.px.to ht) (ht.fr.mono fun _ _ e => .inr e) ht.new
/-- What is open is stored. -/
theorem BMid.setO {w wr : World} {b bx N : Nat} {tr : Bool} {c : Array Value} {v v' : Nat → Value} {l : Value} {x : Ord} {M : Nat → List Ord} {td vol o : Int} {E : List Ev} (h : BMid w wr b bx N tr c v v' l x M td vol o E) (ha : BAt w b bx N v) (o' : Int) :
    BMid w (wr.setCell ⟨N, 5, none⟩ (.int .i64 o')) b bx N tr c v v' l x M td vol o' E := by
  have hf : Fr (Is N) wr (wr.setCell ⟨N, 5, none⟩ (.int .i64 o')) := (Fr.refl _ _).setAt N (.inr (Is.self N)) _ _
  refine ⟨h.px.fr hf (fun q hq e => h.ne ha q hq e), h.fr.trans hf (fun q hq e => by have : q = N := e; have := ha.n; omega), h.new, own_fr h.evs hf (fun q hq e => by have := (h.el q hq).1; have : q = N := e; omega), h.el, ?_⟩
  rw [heap_set h.box]; rfl
/-- An event more. -/
theorem BMid.more {w wr wa wr' : World} {b bx N g n m : Nat} {tr : Bool} {c : Array Value} {v v' : Nat → Value} {l : Value} {x : Ord} {M : Nat → List Ord} {td vol o : Int} {E E' : List Ev} (h : BMid w wr b bx N tr c v v' l x M td vol o E) (h0 : BAt w b bx N v)
    (ha : Fr No wr wa) (hf : Fr (OwnS l) wa wr') (he : Es wr' N (.slice (some ⟨g, 0, none⟩) n m) E') (hat : OwnS l g ∨ wr.heap.size ≤ g) : BMid w wr' b bx N tr c v v' (.slice (some ⟨g, 0, none⟩) n m) x M td vol o E' := by
  have hbl := lt_of_heap h.box
  refine ⟨(h.px.no ha).fr hf (fun q hq e => ?_), (h.fr.quiet ha).trans hf (fun q hq e => by have := (h.el q e).1; have := h0.n; omega), h.new, he, fun q hq => ?_, (hf.heap (ha.heap h.box id) (fun e => by have := (h.el N e).1; omega))⟩
  · rcases hq with hq | hq
    · have := (h.el q e).1; have := h0.lt q (.inl hq); omega
    · exact (h.el q e).2 hq
  · have e := own_eq hq
    subst e
    rcases hat with h1 | h1
    · exact h.el _ h1
    · exact ⟨by omega, fun e => by have := h.px.pb.blt _ e; omega⟩

/-- What comes of a meeting. -/
structure MeetTo (w w' : World) (b bx : Nat) (tr : Bool) (v v' : Nat → Value) (M : Nat → List Ord) (c : Array Value) (td vol : Int) (l : Value) (E : List Ev) : Prop where
  px : PX w' b bx tr td v' M c vol
  fr : Fr (XS b bx v) w w'
  new : ∀ g, BS b v' g → BS b v g ∨ w.heap.size ≤ g
  evs : Es w' w.heap.size l E
  el : ∀ g, OwnS l g → ¬ BS b v' g
theorem BMid.out {w wr : World} {b bx N : Nat} {tr : Bool} {c : Array Value} {v v' : Nat → Value} {l : Value} {x : Ord} {M : Nat → List Ord} {td vol o : Int} {E : List Ev} (h : BMid w wr b bx N tr c v v' l x M td vol o E) (h0 : BAt w b bx N v) : MeetTo w wr b bx tr v v' M c td vol l E :=
  ⟨h.px, h.fr, fun g hg => (h.new g hg).imp id (fun h => by have := h0.n; omega), by rw [h0.n]; exact h.evs, fun g hg => (h.el g hg).2⟩
theorem wrp_add (a n : Int) : wrp (wrp a + n) = wrp (a + n) := by unfold wrp; rw [IntKind.wrap_i64, IntKind.wrap_i64, IntKind.wrap_i64]; omega
theorem box6o {W : World} {b : Nat} {T : TypeId} {x0 x1 x2 x3 x4 x5 : Value} (h : W.heap[b]? = some (.cells #[x0, x1, x2, x3, x4, x5] T (0, 0))) : W.frozen? ⟨b, 5, none⟩ = false := frozen_heap h 5
theorem meetP_stop {rc : Int → Bool} {x : Ord} {y : Ord} {S : List Ord} {t o : Int} {E : List Ev} (h : ¬ (rc y.price = true ∧ 0 < o)) : meetP rc x (y :: S) t o E = (y :: S, t, o, E) := by rw [meetP, if_neg h]
theorem meetP_zero {rc : Int → Bool} {x : Ord} {F : List Ord} {t o : Int} {E : List Ev} (h : ¬ 0 < o) : meetP rc x F t o E = (F, t, o, E) := by
  cases F with
  | nil => rfl
  | cons y S => exact meetP_stop fun e => h e.2
theorem meetP_own {rc : Int → Bool} {x : Ord} {y : Ord} {S : List Ord} {t o : Int} {E : List Ev} (h : rc y.price = true) (h0 : 0 < o) (ht : y.trader = x.trader) : meetP rc x (y :: S) t o E = meetP rc x S t o (E ++ [goneO y]) := by rw [meetP, if_pos ⟨h, h0⟩, if_pos ht]
theorem meetP_trade {rc : Int → Bool} {x : Ord} {y : Ord} {S : List Ord} {t o : Int} {E : List Ev} (h : rc y.price = true) (h0 : 0 < o) (ht : ¬ y.trader = x.trader) (n : Int) (hn : n = if y.opn ≤ o then y.opn else o) :
    meetP rc x (y :: S) t o E = meetP rc x (if n = y.opn then S else { y with opn := y.opn - n } :: S) (t + n) (o - n) (E ++ [tradedE x.id y.id y.price n]) := by
  rw [meetP, if_pos ⟨h, h0⟩, if_neg ht]
  by_cases hle : y.opn ≤ o
  · rw [if_pos hle] at hn
    subst hn
    rw [if_pos hle, if_pos rfl]
  · rw [if_neg hle] at hn
    subst hn
    rw [if_neg hle, if_neg (by omega), meetP_zero (by omega)]
    simp
theorem meetP_round {rc : Int → Bool} {x : Ord} {y : Ord} {S : List Ord} {t o : Int} {E : List Ev} (h : rc y.price = true) (h0 : 0 < o) (ht : ¬ y.trader = x.trader) (hy : 1 ≤ y.opn ∧ y.opn ≤ 1000000) (hS : ∀ z ∈ S, 1 ≤ z.opn ∧ z.opn ≤ 1000000) (n left : Int)
    (hn : n = y.opn ∧ y.opn ≤ o ∧ left = o - y.opn ∨ n = o ∧ o ≤ y.opn ∧ left = 0) {F : List Ord} (hF : (if n = y.opn then S else { y with opn := y.opn - n } :: S) = F) :
    meetP rc x (y :: S) t o E = meetP rc x F (t + n) left (E ++ [tradedE x.id y.id y.price n]) ∧ F.length + (if 0 < left then 1 else 0) ≤ S.length + 1 ∧ ∀ z ∈ F, 1 ≤ z.opn ∧ z.opn ≤ 1000000 := by
  have e : left = o - n := by omega
  refine ⟨?_, ?_, ?_⟩
  · rw [meetP_trade h h0 ht n (by split <;> omega), hF, e]
  · rw [← hF]
    split <;> split <;> simp <;> omega
  · rw [← hF]
    intro z hz
    split at hz
    · exact hS z hz
    · rcases List.mem_cons.1 hz with rfl | hz
      · simp only; omega
      · exact hS z hz

set_option maxHeartbeats 8000000 in
set_option maxRecDepth 100000 in
theorem meet_reach (b bx : Nat) (tr : Bool) (td : Int) (v : Nat → Value) (M : Nat → List Ord) (c : Array Value) (vol : Int) (x : Ord) (kind : Int) (hk : kind ≠ 2) (hsd : x.side = 1 ∨ x.side = 2) (w : World) (h : PX w b bx tr td v M c vol)
    (hop : ∀ y ∈ M (sj (3 - x.side)), 1 ≤ y.opn ∧ y.opn ≤ 1000000) (ho : 0 ≤ x.opn ∧ x.opn ≤ 1000000) (htd : wrp td = td) (hvol : wrp vol = vol) (R : List Ord × Int × Int × List Ev) (hR : meetP (rch kind x.side x.price) x (M (sj (3 - x.side))) 0 x.opn [] = R) :
    Calls Tryz.prog 133 #[.pointer (some ⟨b, 0, none⟩), x.val, .int .i64 kind] w fun e w' => ∃ l v', e = .returned (.tuple #[l, .int .i64 R.2.2.1]) ∧ MeetTo w w' b bx tr v v' (upd M (sj (3 - x.side)) R.1) c (wrp (td + R.2.1)) (wrp (vol + R.2.1)) l R.2.2.2 := by
  obtain ⟨xid, xt, xb, xs, xp, xo⟩ := x
  have h3 : 3 - xs = 1 ∨ 3 - xs = 2 := by simp only at hsd; omega
  have HSD := hide (And.intro hsd h3)
  have ha0 : BAt w b bx w.heap.size v := ⟨rfl, h.lt⟩
  have hlen := h.pb.len _ (sj_lt (3 - xs))
  have HPX := hide h
  have HA := hide (And.intro hop (And.intro ho (And.intro hR (And.intro htd hvol))))
  have hkb : (kind == 2) = false := by simpa using hk
  have HK := hide hk
  clear hk
  clear h hop ho hR htd hvol hsd
  unfold Ord.val
  simp only at *
  go_enter Tryz.func133, Tryz.ntmps133
  go_wp2_with (go_at_call 152; refine (facing_any b _ (unhide HSD).1 _).mono ?_; rintro e w2 ⟨rfl, rfl⟩)
  generalize hW : World.alloc w _ = W
  have hWf : Fr No w W := by rw [← hW]; exact (Fr.refl _ _).alloc _
  have hWx : W.heap[w.heap.size]? = some (.cells #[.int .i64 xid, .int .i64 xt, .int .i64 xb, .int .i64 xs, .int .i64 xp, .int .i64 xo] 95 (0, 0)) := by
    rw [← hW]; exact heap_alloc_new w _
  have hM0 : BMid w W b bx w.heap.size tr c v v (.slice none 0 0) ⟨xid, xt, xb, xs, xp, xo⟩ (upd M (sj (3 - xs)) (M (sj (3 - xs)))) (wrp (td + 0)) (wrp (vol + 0)) xo [] := by
    obtain ⟨-, -, -, ht, hv⟩ := unhide HA
    have e : upd M (sj (3 - xs)) (M (sj (3 - xs))) = M := by funext k; unfold upd; split <;> simp [*]
    rw [e, Int.add_zero, Int.add_zero, ht, hv]
    exact ⟨(unhide HPX).no hWf, hWf.of_no, fun g hg => .inl hg, World.ownsRow_nil _ _ _ _, fun g hg => by simp [OwnS, Value.ownBlock] at hg, hWx⟩
  generalize hN : w.heap.size = N at *
  have HN := hide ha0
  have HM0 := hide hM0
  have hNW := lt_of_heap hWx
  obtain ⟨x0, x1, x2, x3, x4, x5, _⟩ := box6 hWx
  clear hW hWf hWx hM0 hN ha0
  go_loopg [10] ((M (sj (3 - xs))).length + 2) (fun f l wr' => ∃ F t o E v', BMid w wr' b bx N tr c v v' l ⟨xid, xt, xb, xs, xp, xo⟩ (upd M (sj (3 - xs)) F) (wrp (td + t)) (wrp (vol + t)) o E ∧ meetP (rch kind xs xp) ⟨xid, xt, xb, xs, xp, xo⟩ F t o E = R ∧ F.length + (if 0 < o then 1 else 0) < f ∧ E.length + F.length + (if 0 < o then 1 else 0) ≤ 2000 ∧ (∀ y ∈ F, 1 ≤ y.opn ∧ y.opn ≤ 1000000) ∧ (0 ≤ o ∧ o ≤ 1000000))
  case atStart => exact ⟨M (sj (3 - xs)), 0, xo, [], v, unhide HM0, (unhide HA).2.2.1, by split <;> omega, by simp only [List.length_nil]; split <;> omega, (unhide HA).1, (unhide HA).2.1⟩
  case round =>
    obtain ⟨F, t, o, E, v', hm, hmw, hfl, hEl, hop, ho0, ho1⟩ := hrel
    obtain ⟨y0, y1, y2, y3, y4, y5, -⟩ := box6 hm.box
    have hyf := box6o hm.box
    have hN1 := lt_of_heap hm.box
    have hbl := hm.px.pb.lt
    obtain ⟨a, cap, hv⟩ := (hm.px.pb.sideIn (unhide HSD).2).at_.form
    have hc := (hm.px.pb.sideIn (unhide HSD).2).at_.cel
    have hown := hm.px.pb.own _ (sj_lt (3 - xs))
    rw [hv] at hc hown
    rw [upd_get] at hc hown
    have HMM := hide hm
    clear hm hv
    by_cases ho2 : 0 < o
    · have hob : decide (o > 0) = true := by simpa using ho2
      cases F with
      | nil =>
        simp only [List.length_nil] at hc
        have HMW := hide hmw
        clear hmw hown
        go_wp2
        go_quiet (fail)
        go_wp2
        go_ret2
        have e := unhide HMW
        simp only [meetP] at e
        rw [← e]
        exact ⟨_, v', rfl, ((unhide HMM).no ((Fr.refl _ _).drewN _)).out (unhide HN)⟩
      | cons y S =>
        have hlp : (0 : Int) < ((y :: S).length : Int) := by simp
        obtain ⟨g, rfl, hg, -, c0, c1, c2, c3, c4, c5, -⟩ := os_at hown 0 (by simp)
        simp only [Nat.zero_mul, Nat.zero_add, List.getElem_cons_zero] at c0 c1 c2 c3 c4 c5
        have hyo := hop y (by simp)
        have hopS : ∀ z ∈ S, 1 ≤ z.opn ∧ z.opn ≤ 1000000 := fun z hz => hop z (by simp [hz])
        have HST := hide (And.intro hmw (And.intro hop hopS))
        have hsi := (unhide HMM).px.pb.sideIn (unhide HSD).2
        rw [upd_get] at hsi
        have HC : Hid (Calls Tryz.prog 154 #[.pointer (some ⟨b, sAt (3 - xs), none⟩), .int .i64 xp, .int .i64 0] wr fun e w' => e = .returned (.bool (rch kind xs xp y.price)) ∧ w' = wr) := by
          have := reached_any (3 - xs) (unhide HSD).2 b (sAt (3 - xs)) _ (y :: S) xp 0 wr hsi.at_ ((cell_heap hsi.blk _).trans hsi.bts) (by simp)
          rw [show rch kind xs xp y.price = !beatsB (3 - xs) xp y.price from by simp [rch, unhide HK]]
          exact this
        clear hsi
        have hln : (y :: S).length = S.length + 1 := rfl
        generalize (y :: S).length = m at *
        clear hmw hop hopS hown
        generalize hX : rch kind xs xp y.price = X at *
        have HXX := hide hX
        clear hX
        cases X with
        | false =>
          go_wp2_with (go_at_call 154; refine (unhide HC).mono ?_; rintro e w1 ⟨rfl, hw1⟩; have hw2 := hw1.symm; subst hw2)
          go_quiet (fail)
          go_wp2
          go_ret2
          have e := (unhide HST).1
          rw [meetP_stop (by rw [unhide HXX]; simp)] at e
          rw [← e]
          exact ⟨_, v', rfl, ((unhide HMM).no ((Fr.refl _ _).drewN _)).out (unhide HN)⟩
        | true =>
        generalize hyt : y.trader = yt at *
        have HYT := hide hyt
        clear hyt
        by_cases ht : yt = xt
        · have htb : (yt == xt) = true := by simpa using ht
          have HT := hide ht
          clear ht
          go_wp2_with (go_at_call 154; refine (unhide HC).mono ?_; rintro e w1 ⟨rfl, hw1⟩; have hw2 := hw1.symm; subst hw2)
          generalize hWa : World.alloc wr _ = Wa
          have hfa : Fr No wr Wa := by rw [← hWa]; exact (Fr.refl _ _).alloc _
          have hya : Wa.heap[wr.heap.size]? = some (.cells #[.int .i64 y.id, .int .i64 yt, .int .i64 y.book, .int .i64 y.side, .int .i64 y.price, .int .i64 y.opn] 95 (0, 0)) := by rw [← hWa]; exact heap_alloc_new wr _
          have hma := (unhide HMM).no hfa
          generalize hY : wr.heap.size = Y at *
          have hYN : N < Y := by omega
          have hYX : ¬ BS b v' Y := fun e => by have := (unhide HMM).px.pb.blt _ e; omega
          have HYX := hide hYX
          have HMA := hide hma
          have HYA := hide hya
          clear hWa hfa hya hma hYX c0 c1 c2 c3 c4 c5 y0 y1 y2 y3 y4 y5
          refine (remove0_any (3 - xs) (unhide HSD).2 b bx tr _ v' _ y S Wa (unhide HMA).px.pb (upd_get _ _ _)).mono ?_
          rintro e w3 ⟨rfl, v3, ht3⟩
          rw [upd_upd] at ht3
          have hm3 := (unhide HMA).side (unhide HN) ht3
          have hy3 := ht3.fr.heap (unhide HYA) (unhide HYX)
          have hY3 := lt_of_heap hy3
          obtain ⟨p0, p1, p2, p3, p4, p5, -⟩ := box6 hy3
          have HM3 := hide hm3
          clear hm3 hy3 ht3
          go_wp2_with fail
          refine (eGone_any ⟨y.id, yt, y.book, y.side, y.price, y.opn⟩ w3).mono ?_
          rintro e w4 ⟨rfl, hf4⟩
          have hm4 := (unhide HM3).no hf4
          have hN4 := lt_of_heap hm4.box
          have HM4 := hide hm4
          clear hm4 hf4 p0 p1 p2 p3 p4 p5
          rw [show (goneO ⟨y.id, yt, y.book, y.side, y.price, y.opn⟩).val = .agg #[.int .i64 5, .int .i64 y.id, .int .i64 0, .int .i64 0, .int .i64 y.opn, .int .i64 0] from rfl]
          go_wp2_with (at_builtin; refine app_ev rfl (.tmp 53) (.tmp 56) rfl N _ E (own_fr (S := No) (unhide HM4).evs ((Fr.refl No _).alloc _) (fun _ _ => id)) rfl ⟨w4.heap.size, 0, none⟩ 1 1 [goneE y.id y.opn] rfl rfl (by simp) (new_cells w4 (goneE y.id y.opn).cells _) (by simp; split at hEl <;> omega) (by simp; omega) ?_; intro g9 c9 w9 hown9 hfr9 hat9 hlt9; have hm9 := (unhide HM4).more (unhide HN) ((Fr.refl No _).alloc _) hfr9 hown9 (hat9.imp id (fun h => by have : g9 = w4.heap.size + 1 := (by simpa using h); omega)); have HM9 := hide hm9; clear hm9 hown9 hfr9 hat9)
          obtain ⟨hmw, hop, hopS⟩ := unhide HST
          rw [if_pos ho2] at hfl hEl
          go_roundg (gk - 1)
          case rel => exact ⟨S, t, o, E ++ [goneE y.id y.opn], v3, unhide HM9, by rw [← hmw, meetP_own (unhide HXX) ho2 (by rw [unhide HYT]; exact unhide HT)]; rfl, by rw [if_pos ho2]; omega, by rw [if_pos ho2, List.length_append]; simp; omega, hopS, ⟨ho0, ho1⟩⟩
          case measure => omega
        · have htb : (yt == xt) = false := by simpa using ht
          have HT := hide ht
          clear ht
          go_wp2_with (go_at_call 154; refine (unhide HC).mono ?_; rintro e w1 ⟨rfl, hw1⟩; have hw2 := hw1.symm; subst hw2)
          · generalize hWa : World.alloc (World.setCell wr _ _) _ = Wa
            have hma : BMid w Wa b bx N tr c v v' u10 ⟨xid, xt, xb, xs, xp, xo⟩ (upd M (sj (3 - xs)) (y :: S)) (wrp (td + t)) (wrp (vol + t)) (o - y.opn) E := by
              rw [← hWa]; exact ((unhide HMM).setO (unhide HN) (o - y.opn)).no ((Fr.refl _ _).alloc _)
            have hya : Wa.heap[wr.heap.size]? = some (.cells #[.int .i64 y.id, .int .i64 yt, .int .i64 y.book, .int .i64 y.side, .int .i64 y.price, .int .i64 y.opn] 95 (0, 0)) := by
              rw [← hWa]; exact heap_newAt _ _ (by simp [World.setCell])
            generalize hY : wr.heap.size = Y at *
            have hYN : N < Y := by omega
            have hYW := lt_of_heap hya
            have hYX : ¬ BS b v' Y := fun e => by have := (unhide HMM).px.pb.blt _ e; omega
            have HYX := hide hYX
            have HMA := hide hma
            have HYA := hide hya
            clear hWa hya hma hYX c0 c2 c3 c4 c5 y0 y1 y2 y3 y4 y5
            try clear c1
            refine (take_any (3 - xs) (unhide HSD).2 b bx tr _ v' _ y S (y.opn) Wa (unhide HMA).px.pb (upd_get _ _ _) (by omega) hyo.2).mono ?_
            rintro e w3 ⟨rfl, v3, ht3⟩
            rw [upd_upd] at ht3
            generalize hF3 : (if y.opn = y.opn then S else { y with opn := y.opn - y.opn } :: S) = F3 at ht3
            have hm3 := (unhide HMA).side (unhide HN) ht3
            have hy3 := ht3.fr.heap (unhide HYA) (unhide HYX)
            have hYX3 : ¬ BS b v3 Y := fun e => (ht3.new Y e).elim (unhide HYX) (fun h => by omega)
            have hY3 := lt_of_heap hy3
            have hN3 := lt_of_heap hm3.box
            have hb3 := hm3.px.pb.lt
            obtain ⟨p0, p1, p2, p3, p4, p5, -⟩ := box6 hy3
            obtain ⟨z0, z1, z2, z3, z4, z5, -⟩ := box6 hm3.box
            have HM3 := hide (And.intro hm3 (And.intro hy3 hYX3))
            have HF3 := hide (meetP_round (t := t) (E := E) (unhide HXX) ho2 (show ¬ y.trader = (⟨xid, xt, xb, xs, xp, xo⟩ : Ord).trader by rw [unhide HYT]; exact unhide HT) hyo (unhide HST).2.2 (y.opn) (o - y.opn) (by omega) hF3)
            clear hm3 hy3 ht3 hYX3 hF3
            go_wp2_with fail
            refine (count_any b bx tr _ v3 _ c _ (y.opn) w3 (unhide HM3).1.px).mono ?_
            rintro e w4 ⟨rfl, hp4, hf4⟩
            have hm4 := (unhide HM3).1.to (unhide HN) hp4 hf4 (fun g hg => .inl hg)
            rw [wrp_add, wrp_add, Int.add_assoc, Int.add_assoc] at hm4
            have hy4 := hf4.heap (unhide HM3).2.1 (fun e => e.elim (fun e => by have := (unhide HN).lt bx (.inl rfl); omega) (unhide HM3).2.2)
            have hY4 := lt_of_heap hy4
            have hN4 := lt_of_heap hm4.box
            clear p0 p1 p2 p3 p4 p5 z0 z1 z2 z3 z4 z5
            obtain ⟨p0, p1, p2, p3, p4, p5, -⟩ := box6 hy4
            obtain ⟨z0, z1, z2, z3, z4, z5, -⟩ := box6 hm4.box
            have HM4 := hide hm4
            clear hm4 hp4 hf4 hy4
            go_wp2_with fail
            refine (eTraded_any ⟨xid, xt, xb, xs, xp, o - y.opn⟩ ⟨y.id, yt, y.book, y.side, y.price, y.opn⟩ y.price (y.opn) w4).mono ?_
            rintro e w5 ⟨rfl, hf5⟩
            have hm5 := (unhide HM4).no hf5
            have hN5 := lt_of_heap hm5.box
            have HM5 := hide hm5
            clear hm5 hf5 p0 p1 p2 p3 p4 p5 z0 z1 z2 z3 z4 z5
            rw [show (tradedE xid y.id y.price (y.opn)).val = .agg #[.int .i64 3, .int .i64 xid, .int .i64 y.id, .int .i64 y.price, .int .i64 (y.opn), .int .i64 0] from rfl]
            go_wp2_with (at_builtin; refine app_ev rfl (.tmp 74) (.tmp 81) rfl N _ E (own_fr (S := No) (unhide HM5).evs ((Fr.refl No _).alloc _) (fun _ _ => id)) rfl ⟨w5.heap.size, 0, none⟩ 1 1 [tradedE xid y.id y.price (y.opn)] rfl rfl (by simp) (new_cells w5 (tradedE xid y.id y.price (y.opn)).cells _) (by simp; split at hEl <;> omega) (by simp; omega) ?_; intro g9 c9 w9 hown9 hfr9 hat9 hlt9; have hm9 := (unhide HM5).more (unhide HN) ((Fr.refl No _).alloc _) hfr9 hown9 (hat9.imp id (fun h => by have : g9 = w5.heap.size + 1 := (by simpa using h); omega)); have HM9 := hide hm9; clear hm9 hown9 hfr9 hat9)
            obtain ⟨hmw, hop, hopS⟩ := unhide HST
            obtain ⟨f1, f2, f3⟩ := unhide HF3
            rw [if_pos ho2] at hfl hEl
            go_roundg (gk - 1)
            case rel => exact ⟨F3, t + (y.opn), o - y.opn, E ++ [tradedE xid y.id y.price (y.opn)], v3, unhide HM9, f1.symm.trans hmw, by omega, by rw [List.length_append]; simp only [List.length_cons, List.length_nil]; omega, f3, by omega⟩
            case measure => omega
          · generalize hWa : World.alloc (World.setCell wr _ _) _ = Wa
            have hma : BMid w Wa b bx N tr c v v' u10 ⟨xid, xt, xb, xs, xp, xo⟩ (upd M (sj (3 - xs)) (y :: S)) (wrp (td + t)) (wrp (vol + t)) (0) E := by
              rw [← hWa]; exact ((unhide HMM).setO (unhide HN) (0)).no ((Fr.refl _ _).alloc _)
            have hya : Wa.heap[wr.heap.size]? = some (.cells #[.int .i64 y.id, .int .i64 yt, .int .i64 y.book, .int .i64 y.side, .int .i64 y.price, .int .i64 y.opn] 95 (0, 0)) := by
              rw [← hWa]; exact heap_newAt _ _ (by simp [World.setCell])
            generalize hY : wr.heap.size = Y at *
            have hYN : N < Y := by omega
            have hYW := lt_of_heap hya
            have hYX : ¬ BS b v' Y := fun e => by have := (unhide HMM).px.pb.blt _ e; omega
            have HYX := hide hYX
            have HMA := hide hma
            have HYA := hide hya
            clear hWa hya hma hYX c0 c2 c3 c4 c5 y0 y1 y2 y3 y4 y5
            try clear c1
            refine (take_any (3 - xs) (unhide HSD).2 b bx tr _ v' _ y S (o) Wa (unhide HMA).px.pb (upd_get _ _ _) (by omega) hyo.2).mono ?_
            rintro e w3 ⟨rfl, v3, ht3⟩
            rw [upd_upd] at ht3
            generalize hF3 : (if o = y.opn then S else { y with opn := y.opn - o } :: S) = F3 at ht3
            have hm3 := (unhide HMA).side (unhide HN) ht3
            have hy3 := ht3.fr.heap (unhide HYA) (unhide HYX)
            have hYX3 : ¬ BS b v3 Y := fun e => (ht3.new Y e).elim (unhide HYX) (fun h => by omega)
            have hY3 := lt_of_heap hy3
            have hN3 := lt_of_heap hm3.box
            have hb3 := hm3.px.pb.lt
            obtain ⟨p0, p1, p2, p3, p4, p5, -⟩ := box6 hy3
            obtain ⟨z0, z1, z2, z3, z4, z5, -⟩ := box6 hm3.box
            have HM3 := hide (And.intro hm3 (And.intro hy3 hYX3))
            have HF3 := hide (meetP_round (t := t) (E := E) (unhide HXX) ho2 (show ¬ y.trader = (⟨xid, xt, xb, xs, xp, xo⟩ : Ord).trader by rw [unhide HYT]; exact unhide HT) hyo (unhide HST).2.2 (o) (0) (by omega) hF3)
            clear hm3 hy3 ht3 hYX3 hF3
            go_wp2_with fail
            refine (count_any b bx tr _ v3 _ c _ (o) w3 (unhide HM3).1.px).mono ?_
            rintro e w4 ⟨rfl, hp4, hf4⟩
            have hm4 := (unhide HM3).1.to (unhide HN) hp4 hf4 (fun g hg => .inl hg)
            rw [wrp_add, wrp_add, Int.add_assoc, Int.add_assoc] at hm4
            have hy4 := hf4.heap (unhide HM3).2.1 (fun e => e.elim (fun e => by have := (unhide HN).lt bx (.inl rfl); omega) (unhide HM3).2.2)
            have hY4 := lt_of_heap hy4
            have hN4 := lt_of_heap hm4.box
            clear p0 p1 p2 p3 p4 p5 z0 z1 z2 z3 z4 z5
            obtain ⟨p0, p1, p2, p3, p4, p5, -⟩ := box6 hy4
            obtain ⟨z0, z1, z2, z3, z4, z5, -⟩ := box6 hm4.box
            have HM4 := hide hm4
            clear hm4 hp4 hf4 hy4
            go_wp2_with fail
            refine (eTraded_any ⟨xid, xt, xb, xs, xp, 0⟩ ⟨y.id, yt, y.book, y.side, y.price, y.opn⟩ y.price (o) w4).mono ?_
            rintro e w5 ⟨rfl, hf5⟩
            have hm5 := (unhide HM4).no hf5
            have hN5 := lt_of_heap hm5.box
            have HM5 := hide hm5
            clear hm5 hf5 p0 p1 p2 p3 p4 p5 z0 z1 z2 z3 z4 z5
            rw [show (tradedE xid y.id y.price (o)).val = .agg #[.int .i64 3, .int .i64 xid, .int .i64 y.id, .int .i64 y.price, .int .i64 (o), .int .i64 0] from rfl]
            go_wp2_with (at_builtin; refine app_ev rfl (.tmp 74) (.tmp 81) rfl N _ E (own_fr (S := No) (unhide HM5).evs ((Fr.refl No _).alloc _) (fun _ _ => id)) rfl ⟨w5.heap.size, 0, none⟩ 1 1 [tradedE xid y.id y.price (o)] rfl rfl (by simp) (new_cells w5 (tradedE xid y.id y.price (o)).cells _) (by simp; split at hEl <;> omega) (by simp; omega) ?_; intro g9 c9 w9 hown9 hfr9 hat9 hlt9; have hm9 := (unhide HM5).more (unhide HN) ((Fr.refl No _).alloc _) hfr9 hown9 (hat9.imp id (fun h => by have : g9 = w5.heap.size + 1 := (by simpa using h); omega)); have HM9 := hide hm9; clear hm9 hown9 hfr9 hat9)
            obtain ⟨hmw, hop, hopS⟩ := unhide HST
            obtain ⟨f1, f2, f3⟩ := unhide HF3
            rw [if_pos ho2] at hfl hEl
            go_roundg (gk - 1)
            case rel => exact ⟨F3, t + (o), 0, E ++ [tradedE xid y.id y.price (o)], v3, unhide HM9, f1.symm.trans hmw, by omega, by rw [List.length_append]; simp only [List.length_cons, List.length_nil]; omega, f3, by omega⟩
            case measure => omega
    · have hob : decide (o > 0) = false := by simpa using ho2
      have HMW := hide hmw
      clear hmw hown
      go_wp2
      go_quiet (fail)
      go_wp2
      go_ret2
      have e := unhide HMW
      rw [meetP_zero (by omega)] at e
      rw [← e]
      exact ⟨_, v', rfl, ((unhide HMM).no ((Fr.refl _ _).drewN _)).out (unhide HN)⟩

set_option maxHeartbeats 8000000 in
set_option maxRecDepth 100000 in
theorem meet_all (b bx : Nat) (tr : Bool) (td : Int) (v : Nat → Value) (M : Nat → List Ord) (c : Array Value) (vol : Int) (x : Ord) (kind : Int) (hk : kind = 2) (hsd : x.side = 1 ∨ x.side = 2) (w : World) (h : PX w b bx tr td v M c vol)
    (hop : ∀ y ∈ M (sj (3 - x.side)), 1 ≤ y.opn ∧ y.opn ≤ 1000000) (ho : 0 ≤ x.opn ∧ x.opn ≤ 1000000) (htd : wrp td = td) (hvol : wrp vol = vol) (R : List Ord × Int × Int × List Ev) (hR : meetP (rch kind x.side x.price) x (M (sj (3 - x.side))) 0 x.opn [] = R) :
    Calls Tryz.prog 133 #[.pointer (some ⟨b, 0, none⟩), x.val, .int .i64 kind] w fun e w' => ∃ l v', e = .returned (.tuple #[l, .int .i64 R.2.2.1]) ∧ MeetTo w w' b bx tr v v' (upd M (sj (3 - x.side)) R.1) c (wrp (td + R.2.1)) (wrp (vol + R.2.1)) l R.2.2.2 := by
  obtain ⟨xid, xt, xb, xs, xp, xo⟩ := x
  have h3 : 3 - xs = 1 ∨ 3 - xs = 2 := by simp only at hsd; omega
  have HSD := hide (And.intro hsd h3)
  have ha0 : BAt w b bx w.heap.size v := ⟨rfl, h.lt⟩
  have hlen := h.pb.len _ (sj_lt (3 - xs))
  have HPX := hide h
  have HA := hide (And.intro hop (And.intro ho (And.intro hR (And.intro htd hvol))))
  have hkb : (kind == 2) = true := by simpa using hk
  have HK := hide hk
  clear hk
  clear h hop ho hR htd hvol hsd
  unfold Ord.val
  simp only at *
  go_enter Tryz.func133, Tryz.ntmps133
  go_wp2_with (go_at_call 152; refine (facing_any b _ (unhide HSD).1 _).mono ?_; rintro e w2 ⟨rfl, rfl⟩)
  generalize hW : World.alloc w _ = W
  have hWf : Fr No w W := by rw [← hW]; exact (Fr.refl _ _).alloc _
  have hWx : W.heap[w.heap.size]? = some (.cells #[.int .i64 xid, .int .i64 xt, .int .i64 xb, .int .i64 xs, .int .i64 xp, .int .i64 xo] 95 (0, 0)) := by
    rw [← hW]; exact heap_alloc_new w _
  have hM0 : BMid w W b bx w.heap.size tr c v v (.slice none 0 0) ⟨xid, xt, xb, xs, xp, xo⟩ (upd M (sj (3 - xs)) (M (sj (3 - xs)))) (wrp (td + 0)) (wrp (vol + 0)) xo [] := by
    obtain ⟨-, -, -, ht, hv⟩ := unhide HA
    have e : upd M (sj (3 - xs)) (M (sj (3 - xs))) = M := by funext k; unfold upd; split <;> simp [*]
    rw [e, Int.add_zero, Int.add_zero, ht, hv]
    exact ⟨(unhide HPX).no hWf, hWf.of_no, fun g hg => .inl hg, World.ownsRow_nil _ _ _ _, fun g hg => by simp [OwnS, Value.ownBlock] at hg, hWx⟩
  generalize hN : w.heap.size = N at *
  have HN := hide ha0
  have HM0 := hide hM0
  have hNW := lt_of_heap hWx
  obtain ⟨x0, x1, x2, x3, x4, x5, _⟩ := box6 hWx
  clear hW hWf hWx hM0 hN ha0
  go_loopg [10] ((M (sj (3 - xs))).length + 2) (fun f l wr' => ∃ F t o E v', BMid w wr' b bx N tr c v v' l ⟨xid, xt, xb, xs, xp, xo⟩ (upd M (sj (3 - xs)) F) (wrp (td + t)) (wrp (vol + t)) o E ∧ meetP (rch kind xs xp) ⟨xid, xt, xb, xs, xp, xo⟩ F t o E = R ∧ F.length + (if 0 < o then 1 else 0) < f ∧ E.length + F.length + (if 0 < o then 1 else 0) ≤ 2000 ∧ (∀ y ∈ F, 1 ≤ y.opn ∧ y.opn ≤ 1000000) ∧ (0 ≤ o ∧ o ≤ 1000000))
  case atStart => exact ⟨M (sj (3 - xs)), 0, xo, [], v, unhide HM0, (unhide HA).2.2.1, by split <;> omega, by simp only [List.length_nil]; split <;> omega, (unhide HA).1, (unhide HA).2.1⟩
  case round =>
    obtain ⟨F, t, o, E, v', hm, hmw, hfl, hEl, hop, ho0, ho1⟩ := hrel
    obtain ⟨y0, y1, y2, y3, y4, y5, -⟩ := box6 hm.box
    have hyf := box6o hm.box
    have hN1 := lt_of_heap hm.box
    have hbl := hm.px.pb.lt
    obtain ⟨a, cap, hv⟩ := (hm.px.pb.sideIn (unhide HSD).2).at_.form
    have hc := (hm.px.pb.sideIn (unhide HSD).2).at_.cel
    have hown := hm.px.pb.own _ (sj_lt (3 - xs))
    rw [hv] at hc hown
    rw [upd_get] at hc hown
    have HMM := hide hm
    clear hm hv
    by_cases ho2 : 0 < o
    · have hob : decide (o > 0) = true := by simpa using ho2
      cases F with
      | nil =>
        simp only [List.length_nil] at hc
        have HMW := hide hmw
        clear hmw hown
        go_wp2
        go_quiet (fail)
        go_wp2
        go_ret2
        have e := unhide HMW
        simp only [meetP] at e
        rw [← e]
        exact ⟨_, v', rfl, ((unhide HMM).no ((Fr.refl _ _).drewN _)).out (unhide HN)⟩
      | cons y S =>
        have hlp : (0 : Int) < ((y :: S).length : Int) := by simp
        obtain ⟨g, rfl, hg, -, c0, c1, c2, c3, c4, c5, -⟩ := os_at hown 0 (by simp)
        simp only [Nat.zero_mul, Nat.zero_add, List.getElem_cons_zero] at c0 c1 c2 c3 c4 c5
        have hyo := hop y (by simp)
        have hopS : ∀ z ∈ S, 1 ≤ z.opn ∧ z.opn ≤ 1000000 := fun z hz => hop z (by simp [hz])
        have HST := hide (And.intro hmw (And.intro hop hopS))
        have HC : Hid (Calls Tryz.prog 155 #[.pointer (some ⟨b, sAt (3 - xs), none⟩), .int .i64 xp, .int .i64 0] wr fun e w' => e = .returned (.bool (rch kind xs xp y.price)) ∧ w' = wr) := by
          rw [show rch kind xs xp y.price = true from by simp [rch, unhide HK]]
          exact always_any _ _ _ _
        have hln : (y :: S).length = S.length + 1 := rfl
        generalize (y :: S).length = m at *
        clear hmw hop hopS hown
        generalize hX : rch kind xs xp y.price = X at *
        have HXX := hide hX
        clear hX
        cases X with
        | false =>
          go_wp2_with (go_at_call 155; refine (unhide HC).mono ?_; rintro e w1 ⟨rfl, hw1⟩; have hw2 := hw1.symm; subst hw2)
          go_quiet (fail)
          go_wp2
          go_ret2
          have e := (unhide HST).1
          rw [meetP_stop (by rw [unhide HXX]; simp)] at e
          rw [← e]
          exact ⟨_, v', rfl, ((unhide HMM).no ((Fr.refl _ _).drewN _)).out (unhide HN)⟩
        | true =>
        generalize hyt : y.trader = yt at *
        have HYT := hide hyt
        clear hyt
        by_cases ht : yt = xt
        · have htb : (yt == xt) = true := by simpa using ht
          have HT := hide ht
          clear ht
          go_wp2_with (go_at_call 155; refine (unhide HC).mono ?_; rintro e w1 ⟨rfl, hw1⟩; have hw2 := hw1.symm; subst hw2)
          generalize hWa : World.alloc wr _ = Wa
          have hfa : Fr No wr Wa := by rw [← hWa]; exact (Fr.refl _ _).alloc _
          have hya : Wa.heap[wr.heap.size]? = some (.cells #[.int .i64 y.id, .int .i64 yt, .int .i64 y.book, .int .i64 y.side, .int .i64 y.price, .int .i64 y.opn] 95 (0, 0)) := by rw [← hWa]; exact heap_alloc_new wr _
          have hma := (unhide HMM).no hfa
          generalize hY : wr.heap.size = Y at *
          have hYN : N < Y := by omega
          have hYX : ¬ BS b v' Y := fun e => by have := (unhide HMM).px.pb.blt _ e; omega
          have HYX := hide hYX
          have HMA := hide hma
          have HYA := hide hya
          clear hWa hfa hya hma hYX c0 c1 c2 c3 c4 c5 y0 y1 y2 y3 y4 y5
          refine (remove0_any (3 - xs) (unhide HSD).2 b bx tr _ v' _ y S Wa (unhide HMA).px.pb (upd_get _ _ _)).mono ?_
          rintro e w3 ⟨rfl, v3, ht3⟩
          rw [upd_upd] at ht3
          have hm3 := (unhide HMA).side (unhide HN) ht3
          have hy3 := ht3.fr.heap (unhide HYA) (unhide HYX)
          have hY3 := lt_of_heap hy3
          obtain ⟨p0, p1, p2, p3, p4, p5, -⟩ := box6 hy3
          have HM3 := hide hm3
          clear hm3 hy3 ht3
          go_wp2_with fail
          refine (eGone_any ⟨y.id, yt, y.book, y.side, y.price, y.opn⟩ w3).mono ?_
          rintro e w4 ⟨rfl, hf4⟩
          have hm4 := (unhide HM3).no hf4
          have hN4 := lt_of_heap hm4.box
          have HM4 := hide hm4
          clear hm4 hf4 p0 p1 p2 p3 p4 p5
          rw [show (goneO ⟨y.id, yt, y.book, y.side, y.price, y.opn⟩).val = .agg #[.int .i64 5, .int .i64 y.id, .int .i64 0, .int .i64 0, .int .i64 y.opn, .int .i64 0] from rfl]
          go_wp2_with (at_builtin; refine app_ev rfl (.tmp 53) (.tmp 56) rfl N _ E (own_fr (S := No) (unhide HM4).evs ((Fr.refl No _).alloc _) (fun _ _ => id)) rfl ⟨w4.heap.size, 0, none⟩ 1 1 [goneE y.id y.opn] rfl rfl (by simp) (new_cells w4 (goneE y.id y.opn).cells _) (by simp; split at hEl <;> omega) (by simp; omega) ?_; intro g9 c9 w9 hown9 hfr9 hat9 hlt9; have hm9 := (unhide HM4).more (unhide HN) ((Fr.refl No _).alloc _) hfr9 hown9 (hat9.imp id (fun h => by have : g9 = w4.heap.size + 1 := (by simpa using h); omega)); have HM9 := hide hm9; clear hm9 hown9 hfr9 hat9)
          obtain ⟨hmw, hop, hopS⟩ := unhide HST
          rw [if_pos ho2] at hfl hEl
          go_roundg (gk - 1)
          case rel => exact ⟨S, t, o, E ++ [goneE y.id y.opn], v3, unhide HM9, by rw [← hmw, meetP_own (unhide HXX) ho2 (by rw [unhide HYT]; exact unhide HT)]; rfl, by rw [if_pos ho2]; omega, by rw [if_pos ho2, List.length_append]; simp; omega, hopS, ⟨ho0, ho1⟩⟩
          case measure => omega
        · have htb : (yt == xt) = false := by simpa using ht
          have HT := hide ht
          clear ht
          go_wp2_with (go_at_call 155; refine (unhide HC).mono ?_; rintro e w1 ⟨rfl, hw1⟩; have hw2 := hw1.symm; subst hw2)
          · generalize hWa : World.alloc (World.setCell wr _ _) _ = Wa
            have hma : BMid w Wa b bx N tr c v v' u10 ⟨xid, xt, xb, xs, xp, xo⟩ (upd M (sj (3 - xs)) (y :: S)) (wrp (td + t)) (wrp (vol + t)) (o - y.opn) E := by
              rw [← hWa]; exact ((unhide HMM).setO (unhide HN) (o - y.opn)).no ((Fr.refl _ _).alloc _)
            have hya : Wa.heap[wr.heap.size]? = some (.cells #[.int .i64 y.id, .int .i64 yt, .int .i64 y.book, .int .i64 y.side, .int .i64 y.price, .int .i64 y.opn] 95 (0, 0)) := by
              rw [← hWa]; exact heap_newAt _ _ (by simp [World.setCell])
            generalize hY : wr.heap.size = Y at *
            have hYN : N < Y := by omega
            have hYW := lt_of_heap hya
            have hYX : ¬ BS b v' Y := fun e => by have := (unhide HMM).px.pb.blt _ e; omega
            have HYX := hide hYX
            have HMA := hide hma
            have HYA := hide hya
            clear hWa hya hma hYX c0 c2 c3 c4 c5 y0 y1 y2 y3 y4 y5
            try clear c1
            refine (take_any (3 - xs) (unhide HSD).2 b bx tr _ v' _ y S (y.opn) Wa (unhide HMA).px.pb (upd_get _ _ _) (by omega) hyo.2).mono ?_
            rintro e w3 ⟨rfl, v3, ht3⟩
            rw [upd_upd] at ht3
            generalize hF3 : (if y.opn = y.opn then S else { y with opn := y.opn - y.opn } :: S) = F3 at ht3
            have hm3 := (unhide HMA).side (unhide HN) ht3
            have hy3 := ht3.fr.heap (unhide HYA) (unhide HYX)
            have hYX3 : ¬ BS b v3 Y := fun e => (ht3.new Y e).elim (unhide HYX) (fun h => by omega)
            have hY3 := lt_of_heap hy3
            have hN3 := lt_of_heap hm3.box
            have hb3 := hm3.px.pb.lt
            obtain ⟨p0, p1, p2, p3, p4, p5, -⟩ := box6 hy3
            obtain ⟨z0, z1, z2, z3, z4, z5, -⟩ := box6 hm3.box
            have HM3 := hide (And.intro hm3 (And.intro hy3 hYX3))
            have HF3 := hide (meetP_round (t := t) (E := E) (unhide HXX) ho2 (show ¬ y.trader = (⟨xid, xt, xb, xs, xp, xo⟩ : Ord).trader by rw [unhide HYT]; exact unhide HT) hyo (unhide HST).2.2 (y.opn) (o - y.opn) (by omega) hF3)
            clear hm3 hy3 ht3 hYX3 hF3
            go_wp2_with fail
            refine (count_any b bx tr _ v3 _ c _ (y.opn) w3 (unhide HM3).1.px).mono ?_
            rintro e w4 ⟨rfl, hp4, hf4⟩
            have hm4 := (unhide HM3).1.to (unhide HN) hp4 hf4 (fun g hg => .inl hg)
            rw [wrp_add, wrp_add, Int.add_assoc, Int.add_assoc] at hm4
            have hy4 := hf4.heap (unhide HM3).2.1 (fun e => e.elim (fun e => by have := (unhide HN).lt bx (.inl rfl); omega) (unhide HM3).2.2)
            have hY4 := lt_of_heap hy4
            have hN4 := lt_of_heap hm4.box
            clear p0 p1 p2 p3 p4 p5 z0 z1 z2 z3 z4 z5
            obtain ⟨p0, p1, p2, p3, p4, p5, -⟩ := box6 hy4
            obtain ⟨z0, z1, z2, z3, z4, z5, -⟩ := box6 hm4.box
            have HM4 := hide hm4
            clear hm4 hp4 hf4 hy4
            go_wp2_with fail
            refine (eTraded_any ⟨xid, xt, xb, xs, xp, o - y.opn⟩ ⟨y.id, yt, y.book, y.side, y.price, y.opn⟩ y.price (y.opn) w4).mono ?_
            rintro e w5 ⟨rfl, hf5⟩
            have hm5 := (unhide HM4).no hf5
            have hN5 := lt_of_heap hm5.box
            have HM5 := hide hm5
            clear hm5 hf5 p0 p1 p2 p3 p4 p5 z0 z1 z2 z3 z4 z5
            rw [show (tradedE xid y.id y.price (y.opn)).val = .agg #[.int .i64 3, .int .i64 xid, .int .i64 y.id, .int .i64 y.price, .int .i64 (y.opn), .int .i64 0] from rfl]
            go_wp2_with (at_builtin; refine app_ev rfl (.tmp 74) (.tmp 81) rfl N _ E (own_fr (S := No) (unhide HM5).evs ((Fr.refl No _).alloc _) (fun _ _ => id)) rfl ⟨w5.heap.size, 0, none⟩ 1 1 [tradedE xid y.id y.price (y.opn)] rfl rfl (by simp) (new_cells w5 (tradedE xid y.id y.price (y.opn)).cells _) (by simp; split at hEl <;> omega) (by simp; omega) ?_; intro g9 c9 w9 hown9 hfr9 hat9 hlt9; have hm9 := (unhide HM5).more (unhide HN) ((Fr.refl No _).alloc _) hfr9 hown9 (hat9.imp id (fun h => by have : g9 = w5.heap.size + 1 := (by simpa using h); omega)); have HM9 := hide hm9; clear hm9 hown9 hfr9 hat9)
            obtain ⟨hmw, hop, hopS⟩ := unhide HST
            obtain ⟨f1, f2, f3⟩ := unhide HF3
            rw [if_pos ho2] at hfl hEl
            go_roundg (gk - 1)
            case rel => exact ⟨F3, t + (y.opn), o - y.opn, E ++ [tradedE xid y.id y.price (y.opn)], v3, unhide HM9, f1.symm.trans hmw, by omega, by rw [List.length_append]; simp only [List.length_cons, List.length_nil]; omega, f3, by omega⟩
            case measure => omega
          · generalize hWa : World.alloc (World.setCell wr _ _) _ = Wa
            have hma : BMid w Wa b bx N tr c v v' u10 ⟨xid, xt, xb, xs, xp, xo⟩ (upd M (sj (3 - xs)) (y :: S)) (wrp (td + t)) (wrp (vol + t)) (0) E := by
              rw [← hWa]; exact ((unhide HMM).setO (unhide HN) (0)).no ((Fr.refl _ _).alloc _)
            have hya : Wa.heap[wr.heap.size]? = some (.cells #[.int .i64 y.id, .int .i64 yt, .int .i64 y.book, .int .i64 y.side, .int .i64 y.price, .int .i64 y.opn] 95 (0, 0)) := by
              rw [← hWa]; exact heap_newAt _ _ (by simp [World.setCell])
            generalize hY : wr.heap.size = Y at *
            have hYN : N < Y := by omega
            have hYW := lt_of_heap hya
            have hYX : ¬ BS b v' Y := fun e => by have := (unhide HMM).px.pb.blt _ e; omega
            have HYX := hide hYX
            have HMA := hide hma
            have HYA := hide hya
            clear hWa hya hma hYX c0 c2 c3 c4 c5 y0 y1 y2 y3 y4 y5
            try clear c1
            refine (take_any (3 - xs) (unhide HSD).2 b bx tr _ v' _ y S (o) Wa (unhide HMA).px.pb (upd_get _ _ _) (by omega) hyo.2).mono ?_
            rintro e w3 ⟨rfl, v3, ht3⟩
            rw [upd_upd] at ht3
            generalize hF3 : (if o = y.opn then S else { y with opn := y.opn - o } :: S) = F3 at ht3
            have hm3 := (unhide HMA).side (unhide HN) ht3
            have hy3 := ht3.fr.heap (unhide HYA) (unhide HYX)
            have hYX3 : ¬ BS b v3 Y := fun e => (ht3.new Y e).elim (unhide HYX) (fun h => by omega)
            have hY3 := lt_of_heap hy3
            have hN3 := lt_of_heap hm3.box
            have hb3 := hm3.px.pb.lt
            obtain ⟨p0, p1, p2, p3, p4, p5, -⟩ := box6 hy3
            obtain ⟨z0, z1, z2, z3, z4, z5, -⟩ := box6 hm3.box
            have HM3 := hide (And.intro hm3 (And.intro hy3 hYX3))
            have HF3 := hide (meetP_round (t := t) (E := E) (unhide HXX) ho2 (show ¬ y.trader = (⟨xid, xt, xb, xs, xp, xo⟩ : Ord).trader by rw [unhide HYT]; exact unhide HT) hyo (unhide HST).2.2 (o) (0) (by omega) hF3)
            clear hm3 hy3 ht3 hYX3 hF3
            go_wp2_with fail
            refine (count_any b bx tr _ v3 _ c _ (o) w3 (unhide HM3).1.px).mono ?_
            rintro e w4 ⟨rfl, hp4, hf4⟩
            have hm4 := (unhide HM3).1.to (unhide HN) hp4 hf4 (fun g hg => .inl hg)
            rw [wrp_add, wrp_add, Int.add_assoc, Int.add_assoc] at hm4
            have hy4 := hf4.heap (unhide HM3).2.1 (fun e => e.elim (fun e => by have := (unhide HN).lt bx (.inl rfl); omega) (unhide HM3).2.2)
            have hY4 := lt_of_heap hy4
            have hN4 := lt_of_heap hm4.box
            clear p0 p1 p2 p3 p4 p5 z0 z1 z2 z3 z4 z5
            obtain ⟨p0, p1, p2, p3, p4, p5, -⟩ := box6 hy4
            obtain ⟨z0, z1, z2, z3, z4, z5, -⟩ := box6 hm4.box
            have HM4 := hide hm4
            clear hm4 hp4 hf4 hy4
            go_wp2_with fail
            refine (eTraded_any ⟨xid, xt, xb, xs, xp, 0⟩ ⟨y.id, yt, y.book, y.side, y.price, y.opn⟩ y.price (o) w4).mono ?_
            rintro e w5 ⟨rfl, hf5⟩
            have hm5 := (unhide HM4).no hf5
            have hN5 := lt_of_heap hm5.box
            have HM5 := hide hm5
            clear hm5 hf5 p0 p1 p2 p3 p4 p5 z0 z1 z2 z3 z4 z5
            rw [show (tradedE xid y.id y.price (o)).val = .agg #[.int .i64 3, .int .i64 xid, .int .i64 y.id, .int .i64 y.price, .int .i64 (o), .int .i64 0] from rfl]
            go_wp2_with (at_builtin; refine app_ev rfl (.tmp 74) (.tmp 81) rfl N _ E (own_fr (S := No) (unhide HM5).evs ((Fr.refl No _).alloc _) (fun _ _ => id)) rfl ⟨w5.heap.size, 0, none⟩ 1 1 [tradedE xid y.id y.price (o)] rfl rfl (by simp) (new_cells w5 (tradedE xid y.id y.price (o)).cells _) (by simp; split at hEl <;> omega) (by simp; omega) ?_; intro g9 c9 w9 hown9 hfr9 hat9 hlt9; have hm9 := (unhide HM5).more (unhide HN) ((Fr.refl No _).alloc _) hfr9 hown9 (hat9.imp id (fun h => by have : g9 = w5.heap.size + 1 := (by simpa using h); omega)); have HM9 := hide hm9; clear hm9 hown9 hfr9 hat9)
            obtain ⟨hmw, hop, hopS⟩ := unhide HST
            obtain ⟨f1, f2, f3⟩ := unhide HF3
            rw [if_pos ho2] at hfl hEl
            go_roundg (gk - 1)
            case rel => exact ⟨F3, t + (o), 0, E ++ [tradedE xid y.id y.price (o)], v3, unhide HM9, f1.symm.trans hmw, by omega, by rw [List.length_append]; simp only [List.length_cons, List.length_nil]; omega, f3, by omega⟩
            case measure => omega
    · have hob : decide (o > 0) = false := by simpa using ho2
      have HMW := hide hmw
      clear hmw hown
      go_wp2
      go_quiet (fail)
      go_wp2
      go_ret2
      have e := unhide HMW
      rw [meetP_zero (by omega)] at e
      rw [← e]
      exact ⟨_, v', rfl, ((unhide HMM).no ((Fr.refl _ _).drewN _)).out (unhide HN)⟩
end Go.Proofs.YtigpgnjgmaoejaaGreat
