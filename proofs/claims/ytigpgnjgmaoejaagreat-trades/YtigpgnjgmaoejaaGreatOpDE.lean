/- Contracts of a book's tradeAt. Conditions: the book and the total lie in memory, at most 1000 orders on a side, what is open of each is from 1 to 1000000; both sides last for the volume. -/
import Derived.Test.YtigpgnjgmaoejaaGreatOpAC
import Derived.BigRegion
import Derived.Deep.Cut
import Derived.Deep.CutRange
namespace Go.Proofs.YtigpgnjgmaoejaaGreat
open Go.RowKit

theorem MeetTo.no {w wr wr' : World} {b bx : Nat} {tr : Bool} {c : Array Value} {v v' : Nat → Value} {l : Value} {M : Nat → List Ord} {td vol : Int} {E : List Ev} (h : MeetTo w wr b bx tr v v' M c td vol l E) (hf : Fr No wr wr') : MeetTo w wr' b bx tr v v' M c td vol l E :=
  ⟨h.px.no hf, h.fr.quiet hf, h.new, own_fr h.evs hf (fun _ _ => id), h.el⟩
theorem MeetTo.side {w wr w2 : World} {b bx : Nat} {tr : Bool} {c : Array Value} {v v' v2 : Nat → Value} {l : Value} {M M2 : Nat → List Ord} {td vol : Int} {E : List Ev} (h : MeetTo w wr b bx tr v v' M c td vol l E) (ht : BTo wr w2 b bx tr td v' v2 M2) : MeetTo w w2 b bx tr v v2 M2 c td vol l E := by
  refine ⟨h.px.to ht, h.fr.trans ht.fr fun q hq e => ?_, fun g hg => ?_, own_fr h.evs ht.fr fun g hg e => h.el g hg e, fun g hg e => ?_⟩
  · rcases h.new q e with h1 | h1
    · exact .inr h1
    · omega
  · rcases ht.new g hg with h1 | h1
    · exact h.new g h1
    · exact .inr (Nat.le_trans h.fr.size h1)
  · rcases ht.new g e with h1 | h1
    · exact h.el g hg h1
    · have := (h.evs.lt g hg).2; omega
theorem MeetTo.more {w wr wa wr' : World} {b bx g n m : Nat} {tr : Bool} {c : Array Value} {v v' : Nat → Value} {l : Value} {M : Nat → List Ord} {td vol : Int} {E E' : List Ev} (h : MeetTo w wr b bx tr v v' M c td vol l E) (hbx : bx < w.heap.size)
    (ha : Fr No wr wa) (hf : Fr (OwnS l) wa wr') (he : Es wr' w.heap.size (.slice (some ⟨g, 0, none⟩) n m) E') (hat : OwnS l g ∨ wr.heap.size ≤ g) : MeetTo w wr' b bx tr v v' M c td vol (.slice (some ⟨g, 0, none⟩) n m) E' := by
  refine ⟨(h.px.no ha).fr hf (fun q hq e => ?_), (h.fr.quiet ha).trans hf (fun q hq e => by have := (h.evs.lt q e).1; omega), h.new, he, fun q hq => ?_⟩
  · rcases hq with hq | hq
    · have := (h.evs.lt q e).1; omega
    · exact h.el q e hq
  · have e := own_eq hq
    subst e
    rcases hat with h1 | h1
    · exact h.el _ h1
    · exact fun e => by have := h.px.pb.blt _ e; omega

/-- Between two trades of an opening. -/
structure TMid (w wr : World) (b bx : Nat) (tr : Bool) (c : Array Value) (v : Nat → Value) (l : Value) (M : Nat → List Ord) (td vol p : Int) (R : List Ord × List Ord × List Ev) (v' : Nat → Value) (A B : List Ord) (m : Int) (E : List Ev) (f : Nat) : Prop where
  mt : MeetTo w wr b bx tr v v' (upd (upd M 0 A) 1 B) c td vol l E
  run : tradeF p f A B m E = R
  fuel : A.length + B.length ≤ f
  last : Lasts A B m
  pos : 0 ≤ m ∧ m ≤ 1000000000
  opA : ∀ y ∈ A, 1 ≤ y.opn ∧ y.opn ≤ 1000000
  opB : ∀ y ∈ B, 1 ≤ y.opn ∧ y.opn ≤ 1000000
  evl : E.length + (A.length + B.length) ≤ 2000

theorem upd_01 {α : Type} (M : Nat → α) (A B A2 B2 : α) : upd (upd (upd (upd M 0 A) 1 B) 0 A2) 1 B2 = upd (upd M 0 A2) 1 B2 := by
  funext k
  unfold upd
  by_cases h1 : k = 1
  · simp [h1]
  · by_cases h0 : k = 0
    · simp [h0]
    · simp [h0, h1]
theorem cutO_ok {n : Int} {a : Ord} {A : List Ord} (hA : ∀ y ∈ a :: A, 1 ≤ y.opn ∧ y.opn ≤ 1000000) (hn : 1 ≤ n ∧ n ≤ a.opn) : (∀ y ∈ cutO n a A, 1 ≤ y.opn ∧ y.opn ≤ 1000000) ∧ (cutO n a A).length ≤ A.length + 1 := by
  unfold cutO
  split
  · exact ⟨fun y hy => hA y (List.mem_cons_of_mem _ hy), Nat.le_succ _⟩
  · refine ⟨fun y hy => ?_, by simp⟩
    have := hA a List.mem_cons_self
    rcases List.mem_cons.1 hy with rfl | hy
    · simp only; omega
    · exact hA y (List.mem_cons_of_mem _ hy)
theorem cutO_len (n : Int) (a b : Ord) (A B : List Ord) (h : n = a.opn ∨ n = b.opn) : (cutO n a A).length + (cutO n b B).length ≤ A.length + B.length + 1 := by
  unfold cutO
  split <;> split <;> simp <;> omega

theorem TMid.no {w wr w1 : World} {b bx : Nat} {tr : Bool} {c : Array Value} {v : Nat → Value} {l : Value} {M : Nat → List Ord} {td vol p : Int} {R : List Ord × List Ord × List Ev} {v' : Nat → Value} {A B : List Ord} {m : Int} {E : List Ev} {f : Nat} (h : TMid w wr b bx tr c v l M td vol p R v' A B m E f) (hf : Fr No wr w1) : TMid w w1 b bx tr c v l M td vol p R v' A B m E f :=
  ⟨h.mt.no hf, h.run, h.fuel, h.last, h.pos, h.opA, h.opB, h.evl⟩
theorem TMid.next {w wr : World} {b bx : Nat} {tr : Bool} {c : Array Value} {v : Nat → Value} {l : Value} {M : Nat → List Ord} {td vol p : Int} {R : List Ord × List Ord × List Ev} {v' : Nat → Value} {a y : Ord} {A B : List Ord} {m : Int} {E : List Ev} {f : Nat} (h : TMid w wr b bx tr c v l M td vol p R v' (a :: A) (y :: B) m E (f + 1)) (hm : 0 < m) {N : Int} (hN : minO a.opn y.opn = N) :
    1 ≤ N ∧ N ≤ m ∧ ∀ w' l' v5, MeetTo w w' b bx tr v v5 (upd (upd M 0 (cutO N a A)) 1 (cutO N y B)) c td vol l' (E ++ [tradedE a.id y.id p N]) → TMid w w' b bx tr c v l' M td vol p R v5 (cutO N a A) (cutO N y B) (m - N) (E ++ [tradedE a.id y.id p N]) f := by
  subst hN
  obtain ⟨h1, h2, h3⟩ := h.last.step hm (fun z hz => (h.opA z hz).1) (fun z hz => (h.opB z hz).1)
  have hmn := minO_le a.opn y.opn
  have hr := h.run
  rw [tradeF, if_pos hm] at hr
  have hf := h.fuel
  have he := h.evl
  have hc := cutO_len (minO a.opn y.opn) a y A B hmn.2.2
  simp only [List.length_cons] at hf he
  have hp := h.pos
  refine ⟨h1, h2, fun w' l' v5 hmt => ⟨hmt, hr, by omega, h3, by omega, (cutO_ok h.opA ⟨h1, hmn.1⟩).1, (cutO_ok h.opB ⟨h1, hmn.2.1⟩).1, ?_⟩⟩
  rw [List.length_append]
  simp only [List.length_cons, List.length_nil]
  omega

/-- What comes of the trades of an opening. -/
def TradePost (w : World) (b bx : Nat) (tr : Bool) (v : Nat → Value) (M : Nat → List Ord) (c : Array Value) (td vol : Int) (R : List Ord × List Ord × List Ev) (e : Ending) (w' : World) : Prop :=
  ∃ l v', e = .returned l ∧ MeetTo w w' b bx tr v v' (upd (upd M 0 R.1) 1 R.2.1) c td vol l R.2.2

set_option maxHeartbeats 8000000 in
set_option maxRecDepth 100000 in
theorem tradeAt_any (b bx : Nat) (tr : Bool) (td : Int) (v : Nat → Value) (M : Nat → List Ord) (c : Array Value) (vol p n : Int) (w : World) (h : PX w b bx tr td v M c vol) (hop : ∀ j, j < 2 → ∀ y ∈ M j, 1 ≤ y.opn ∧ y.opn ≤ 1000000) (hla : Lasts (M 0) (M 1) n) (hn : 0 ≤ n ∧ n ≤ 1000000000)
    (R : List Ord × List Ord × List Ev) (hR : tradeF p ((M 0).length + (M 1).length) (M 0) (M 1) n [] = R) (hl : ∀ j, j < 2 → (M j).length ≤ 1000) :
    Calls Tryz.prog 143 #[.pointer (some ⟨b, 0, none⟩), .int .i64 p, .int .i64 n] w (TradePost w b bx tr v M c (wrp (td + n)) (wrp (vol + n)) R) := by
  have hbx := h.lt bx (.inl rfl)
  have hbl := h.pb.lt
  have HP := hide (And.intro h (And.intro hop (And.intro hla (And.intro hR hl))))
  clear h hop hla hR hl
  go_enter Tryz.func143, Tryz.ntmps143
  go_wp2_with fail
  refine (bSide_buy b _).mono ?_
  rintro e w1 ⟨rfl, hw1⟩
  have hw1' := hw1.symm
  subst hw1'
  go_wp2_with fail
  refine (bSide_sell b _).mono ?_
  rintro e w2 ⟨rfl, hw2⟩
  have hw2' := hw2.symm
  subst hw2'
  go_wp2_with fail
  refine (count_any b bx tr td v M c vol n w (unhide HP).1).mono ?_
  rintro e w3 ⟨rfl, hp3, hf3⟩
  have h0 : TMid w w3 b bx tr c v (.slice none 0 0) M (wrp (td + n)) (wrp (vol + n)) p R v (M 0) (M 1) n [] ((M 0).length + (M 1).length) := by
    obtain ⟨h, hop, hla, hR, hl⟩ := unhide HP
    have e : upd (upd M 0 (M 0)) 1 (M 1) = M := by rw [upd_same, upd_same]
    refine ⟨⟨by rw [e]; exact hp3, hf3, fun g hg => .inl hg, World.ownsRow_nil _ _ _ _, fun g hg => by simp [OwnS, Value.ownBlock] at hg⟩, hR, Nat.le_refl _, hla, hn, hop 0 (by omega), hop 1 (by omega), ?_⟩
    have := hl 0 (by omega)
    have := hl 1 (by omega)
    simp
    omega
  have H0 := hide h0
  clear h0 hp3 hf3
  generalize hTD : wrp (td + n) = TD at *
  generalize hVOL : wrp (vol + n) = VOL at *
  clear hTD hVOL
  go_wp2_with fail
  go_loopw [2, 9] (fun x l wr => ∃ v' A B m E f, x = .int .i64 m ∧ TMid w wr b bx tr c v l M TD VOL p R v' A B m E f) (fun x _ _ => (intOf x).toNat)
  case atStart => exact ⟨v, M 0, M 1, n, [], _, rfl, unhide H0⟩
  case round =>
    obtain ⟨v', A, B, m, E, f, rfl, hm⟩ := hrel
    by_cases hm0 : 0 < m
    · obtain ⟨a, A', y, B', rfl, rfl⟩ := hm.last.head hm0
      have hpb := hm.mt.px.pb
      have hc0 := hpb.cells.2.2.1
      have hc1 := hpb.cells.2.2.2
      have hb2 := hpb.lt
      obtain ⟨a0, k0, hv0⟩ := hpb.side0.at_.form
      obtain ⟨a1, k1, hv1⟩ := hpb.side1.at_.form
      have ho0 := hpb.own 0 (by omega)
      have ho1 := hpb.own 1 (by omega)
      rw [hv0] at hc0 ho0
      rw [hv1] at hc1 ho1
      have e0 : upd (upd M 0 (a :: A')) 1 (y :: B') 0 = a :: A' := rfl
      have e1 : upd (upd M 0 (a :: A')) 1 (y :: B') 1 = y :: B' := rfl
      rw [e0] at hc0 ho0
      rw [e1] at hc1 ho1
      obtain ⟨g0, rfl, hg0, -, c0, c1, c2, c3, c4, c5, -⟩ := os_at ho0 0 (by simp)
      obtain ⟨g1, rfl, hg1, -, d0, d1, d2, d3, d4, d5, -⟩ := os_at ho1 0 (by simp)
      simp only [List.getElem_cons_zero, Nat.zero_mul, Nat.zero_add] at c0 c1 c2 c3 c4 c5 d0 d1 d2 d3 d4 d5
      have hA1 : (0 : Int) < (((a :: A').length : Nat) : Int) := by simp
      have hB1 : (0 : Int) < (((y :: B').length : Nat) : Int) := by simp
      generalize (a :: A').length = na at hc0 hA1
      generalize (y :: B').length = nb at hc1 hB1
      have HM := hide hm
      clear hpb hv0 hv1 ho0 ho1 e0 e1 hm
      go_wp2_with fail
      go_cut [10, 11] from 20 to 55 (fun s10 s11 wx => ∃ Y Z : Nat, s10 = .pointer (some ⟨Y, 0, none⟩) ∧ s11 = .pointer (some ⟨Z, 0, none⟩) ∧ Fr No wr wx ∧ wr.heap.size ≤ Y ∧ wr.heap.size ≤ Z ∧ wx.heap[Y]? = some (.cells #[.int .i64 a.id, .int .i64 a.trader, .int .i64 a.book, .int .i64 a.side, .int .i64 a.price, .int .i64 a.opn] 95 (0, 0)) ∧ wx.heap[Z]? = some (.cells #[.int .i64 y.id, .int .i64 y.trader, .int .i64 y.book, .int .i64 y.side, .int .i64 y.price, .int .i64 y.opn] 95 (0, 0)))
      case first =>
        go_region
        all_goals (go_wp2_with fail)
        all_goals go_meet
        · exact ⟨wr.heap.size, wr.heap.size + 1, rfl, rfl, (((Fr.refl No wr).alloc _).alloc _).drew, Nat.le_refl _, by omega, ((Fr.refl No _).alloc _).heap (heap_alloc_new wr _) id, heap_newAt _ _ (by simp)⟩
        · exact ⟨wr.heap.size + 1, wr.heap.size, rfl, rfl, (((Fr.refl No wr).alloc _).alloc _).drew, by omega, Nat.le_refl _, heap_newAt _ _ (by simp), ((Fr.refl No _).alloc _).heap (heap_alloc_new wr _) id⟩
      case rest =>
        obtain ⟨Y, Z, rfl, rfl, hfx, hYge, hZge, hY, hZ⟩ := hcut
        obtain ⟨f', rfl⟩ : ∃ f', f = f' + 1 := ⟨f - 1, by have := (unhide HM).fuel; simp at this; omega⟩
        have hMX := (unhide HM).no hfx
        have HMX := hide hMX
        have ha5 := hMX.opA a List.mem_cons_self
        have hy5 := hMX.opB y List.mem_cons_self
        have hEl := hMX.evl
        simp only [List.length_cons] at hEl
        have HY := hide (And.intro hY hZ)
        have hYl := lt_of_heap hY
        have hZl := lt_of_heap hZ
        have hnY : ∀ q, wr.heap.size ≤ q → ¬ BS b v' q := fun q hq e => by have := (unhide HM).mt.px.pb.blt q e; omega
        have HYN := hide (And.intro (hnY Y hYge) (hnY Z hZge))
        obtain ⟨y0, y1, y2, y3, y4, y5, -⟩ := box6 hY
        obtain ⟨z0, z1, z2, z3, z4, z5, -⟩ := box6 hZ
        clear hMX hY hZ hnY c0 c1 c2 c3 c4 c5 d0 d1 d2 d3 d4 d5 hc0 hc1 hA1 hB1 hfx
        by_cases hle : a.opn ≤ y.opn
        · have HX := hide ((unhide HMX).next hm0 (N := a.opn) (by unfold minO; rw [if_pos hle]))
          have hx1 := (unhide HX).1
          have hx2 := (unhide HX).2.1
          have hx3 := (unhide HMX).pos.2
          go_wp2_with fail
          refine (take_any 1 (.inl rfl) b bx tr TD v' _ a A' a.opn wc (unhide HMX).mt.px.pb rfl (by omega) ha5.2).mono ?_
          rintro e w4 ⟨rfl, v4, ht4⟩
          rw [show (if a.opn = a.opn then A' else { a with opn := a.opn - a.opn } :: A') = cutO a.opn a A' from rfl] at ht4
          have hm4 := (unhide HMX).mt.side ht4
          have hY4 := ht4.fr.heap (unhide HY).1 (unhide HYN).1
          have hZ4 := ht4.fr.heap (unhide HY).2 (unhide HYN).2
          have hn4 := ht4.new
          have HM4 := hide (And.intro hm4 (And.intro hY4 (And.intro hZ4 (And.intro hn4 ht4.fr.size))))
          clear hm4 hY4 hZ4 hn4 ht4
          go_wp2_with fail
          refine (take_any 2 (.inr rfl) b bx tr TD v4 _ y B' a.opn w4 (unhide HM4).1.px.pb rfl (by omega) hy5.2).mono ?_
          rintro e w5 ⟨rfl, v5, ht5⟩
          rw [show (if a.opn = y.opn then B' else { y with opn := y.opn - a.opn } :: B') = cutO a.opn y B' from rfl] at ht5
          have hm5 := (unhide HM4).1.side ht5
          have hq5 : ∀ q, ¬ BS b v' q → q < wc.heap.size → ¬ BS b v4 q := fun q hq hl e => ((unhide HM4).2.2.2.1 q e).elim hq (fun h => by omega)
          have hY5 := ht5.fr.heap (unhide HM4).2.1 (hq5 Y (unhide HYN).1 hYl)
          have hZ5 := ht5.fr.heap (unhide HM4).2.2.1 (hq5 Z (unhide HYN).2 hZl)
          obtain ⟨r0, r1, r2, r3, r4, r5, -⟩ := box6 hY5
          obtain ⟨t0, t1, t2, t3, t4, t5, -⟩ := box6 hZ5
          have hY5l := lt_of_heap hY5
          have hZ5l := lt_of_heap hZ5
          rw [show sj 1 = 0 from rfl, show sj 2 = 1 from rfl, upd_01] at hm5
          have HM5 := hide hm5
          clear hm5 hq5 hY5 hZ5 ht5 y0 y1 y2 y3 y4 y5 z0 z1 z2 z3 z4 z5
          go_wp2_with fail
          refine (eTraded_any a y p a.opn w5).mono ?_
          rintro e w6 ⟨rfl, hf6⟩
          have hm6 := (unhide HM5).no hf6
          have HM6 := hide hm6
          have hsz6 : w.heap.size ≤ w6.heap.size := hm6.fr.size
          clear hm6 hf6 r0 r1 r2 r3 r4 r5 t0 t1 t2 t3 t4 t5
          rw [show (tradedE a.id y.id p a.opn).val = .agg #[.int .i64 3, .int .i64 a.id, .int .i64 y.id, .int .i64 p, .int .i64 a.opn, .int .i64 0] from rfl]
          go_wp2_with (at_builtin; refine app_ev rfl (.tmp 48) (.tmp 54) rfl w.heap.size _ E (own_fr (S := No) (unhide HM6).evs ((Fr.refl No _).alloc _) (fun _ _ => id)) rfl ⟨w6.heap.size, 0, none⟩ 1 1 [tradedE a.id y.id p a.opn] rfl rfl (by simp) (new_cells w6 (tradedE a.id y.id p a.opn).cells _) (by simp; omega) (by simp; omega) ?_; intro g9 c9 w9 hown9 hfr9 hat9 hlt9; have hm9 := (unhide HM6).more hbx ((Fr.refl No _).alloc _) hfr9 hown9 (hat9.imp id (fun h => by have : g9 = w6.heap.size + 1 := (by simpa using h); omega)); have HM9 := hide hm9; clear hm9 hown9 hfr9 hat9)
          go_roundw
          case rel => exact ⟨v5, cutO a.opn a A', cutO a.opn y B', m - a.opn, E ++ [tradedE a.id y.id p a.opn], f', rfl, (unhide HX).2.2 _ _ _ (unhide HM9)⟩
          case measure => simp [intOf]; have := (unhide HX).1; have := (unhide HX).2.1; omega
        · have HX := hide ((unhide HMX).next hm0 (N := y.opn) (by unfold minO; rw [if_neg hle]))
          have hx1 := (unhide HX).1
          have hx2 := (unhide HX).2.1
          have hx3 := (unhide HMX).pos.2
          go_wp2_with fail
          refine (take_any 1 (.inl rfl) b bx tr TD v' _ a A' y.opn wc (unhide HMX).mt.px.pb rfl (by omega) ha5.2).mono ?_
          rintro e w4 ⟨rfl, v4, ht4⟩
          rw [show (if y.opn = a.opn then A' else { a with opn := a.opn - y.opn } :: A') = cutO y.opn a A' from rfl] at ht4
          have hm4 := (unhide HMX).mt.side ht4
          have hY4 := ht4.fr.heap (unhide HY).1 (unhide HYN).1
          have hZ4 := ht4.fr.heap (unhide HY).2 (unhide HYN).2
          have hn4 := ht4.new
          have HM4 := hide (And.intro hm4 (And.intro hY4 (And.intro hZ4 (And.intro hn4 ht4.fr.size))))
          clear hm4 hY4 hZ4 hn4 ht4
          go_wp2_with fail
          refine (take_any 2 (.inr rfl) b bx tr TD v4 _ y B' y.opn w4 (unhide HM4).1.px.pb rfl (by omega) hy5.2).mono ?_
          rintro e w5 ⟨rfl, v5, ht5⟩
          rw [show (if y.opn = y.opn then B' else { y with opn := y.opn - y.opn } :: B') = cutO y.opn y B' from rfl] at ht5
          have hm5 := (unhide HM4).1.side ht5
          have hq5 : ∀ q, ¬ BS b v' q → q < wc.heap.size → ¬ BS b v4 q := fun q hq hl e => ((unhide HM4).2.2.2.1 q e).elim hq (fun h => by omega)
          have hY5 := ht5.fr.heap (unhide HM4).2.1 (hq5 Y (unhide HYN).1 hYl)
          have hZ5 := ht5.fr.heap (unhide HM4).2.2.1 (hq5 Z (unhide HYN).2 hZl)
          obtain ⟨r0, r1, r2, r3, r4, r5, -⟩ := box6 hY5
          obtain ⟨t0, t1, t2, t3, t4, t5, -⟩ := box6 hZ5
          have hY5l := lt_of_heap hY5
          have hZ5l := lt_of_heap hZ5
          rw [show sj 1 = 0 from rfl, show sj 2 = 1 from rfl, upd_01] at hm5
          have HM5 := hide hm5
          clear hm5 hq5 hY5 hZ5 ht5 y0 y1 y2 y3 y4 y5 z0 z1 z2 z3 z4 z5
          go_wp2_with fail
          refine (eTraded_any a y p y.opn w5).mono ?_
          rintro e w6 ⟨rfl, hf6⟩
          have hm6 := (unhide HM5).no hf6
          have HM6 := hide hm6
          have hsz6 : w.heap.size ≤ w6.heap.size := hm6.fr.size
          clear hm6 hf6 r0 r1 r2 r3 r4 r5 t0 t1 t2 t3 t4 t5
          rw [show (tradedE a.id y.id p y.opn).val = .agg #[.int .i64 3, .int .i64 a.id, .int .i64 y.id, .int .i64 p, .int .i64 y.opn, .int .i64 0] from rfl]
          go_wp2_with (at_builtin; refine app_ev rfl (.tmp 48) (.tmp 54) rfl w.heap.size _ E (own_fr (S := No) (unhide HM6).evs ((Fr.refl No _).alloc _) (fun _ _ => id)) rfl ⟨w6.heap.size, 0, none⟩ 1 1 [tradedE a.id y.id p y.opn] rfl rfl (by simp) (new_cells w6 (tradedE a.id y.id p y.opn).cells _) (by simp; omega) (by simp; omega) ?_; intro g9 c9 w9 hown9 hfr9 hat9 hlt9; have hm9 := (unhide HM6).more hbx ((Fr.refl No _).alloc _) hfr9 hown9 (hat9.imp id (fun h => by have : g9 = w6.heap.size + 1 := (by simpa using h); omega)); have HM9 := hide hm9; clear hm9 hown9 hfr9 hat9)
          go_roundw
          case rel => exact ⟨v5, cutO y.opn a A', cutO y.opn y B', m - y.opn, E ++ [tradedE a.id y.id p y.opn], f', rfl, (unhide HX).2.2 _ _ _ (unhide HM9)⟩
          case measure => simp [intOf]; have := (unhide HX).1; have := (unhide HX).2.1; omega
    · have hmz : m = 0 := by have := hm.pos.1; omega
      subst hmz
      have hRR : (A, B, E) = R := by
        rw [← hm.run]
        cases f with
        | zero => rfl
        | succ f =>
          cases A with
          | nil => rfl
          | cons a A =>
            cases B with
            | nil => rfl
            | cons y B => rw [tradeF, if_neg (by omega)]
      have HM := hide (And.intro hm.mt hRR)
      clear hm hRR
      go_wp2
      go_ret
      rw [← (unhide HM).2]
      exact ⟨_, v', rfl, (unhide HM).1⟩
end Go.Proofs.YtigpgnjgmaoejaaGreat

/- Contracts of a book's Open and Close. Conditions: the book and the total lie in memory and are as they should be. -/
namespace Go.Proofs.YtigpgnjgmaoejaaGreat
open Go.RowKit

set_option maxHeartbeats 400000 in
theorem eOpened_any (p n : Int) (w : World) : Calls Tryz.prog 144 #[.int .i64 p, .int .i64 n] w fun e w' => e = .returned (openedE p n).val ∧ Fr No w w' := by
  go_enter Tryz.func144, Tryz.ntmps144
  go_wp2
  exact bodyPost_ret (v := (openedE p n).val) (by simp [results, Tryz.results144, go_sem, openedE, Ev.val]) rfl ⟨rfl, (Fr.refl _ _).alloc _⟩
set_option maxHeartbeats 400000 in
theorem eClosed_any (w : World) : Calls Tryz.prog 145 #[] w fun e w' => e = .returned closedE.val ∧ Fr No w w' := by
  go_enter Tryz.func145, Tryz.ntmps145
  go_wp2
  exact bodyPost_ret (v := closedE.val) (by simp [results, Tryz.results145, go_sem, closedE, Ev.val]) rfl ⟨rfl, (Fr.refl _ _).alloc _⟩

theorem tradeF_evs (p : Int) : ∀ (f : Nat) (A B : List Ord) (v : Int) (E : List Ev), (tradeF p f A B v E).2.2.length ≤ E.length + f
  | 0, _, _, _, E => Nat.le_refl _
  | f + 1, [], B, _, E => Nat.le_add_right _ _
  | f + 1, a :: A, [], _, E => Nat.le_add_right _ _
  | f + 1, a :: A, b :: B, v, E => by
    rw [tradeF]
    split
    · have := tradeF_evs p f (cutO (minO a.opn b.opn) a A) (cutO (minO a.opn b.opn) b B) (v - minO a.opn b.opn) (E ++ [tradedE a.id b.id p (minO a.opn b.opn)])
      simp only [List.length_append, List.length_cons, List.length_nil] at this
      omega
    · simp
/-- How much can be traded. -/
theorem openTn_le {k : Nat} {M : Nat → List Ord} (h : BkOk k M) : (openTn M).vol ≤ 1000000000 := by
  rcases openTn_cases M with ⟨_, e⟩ | ⟨q, _, e, _⟩
  · rw [e]; simp only; omega
  · rw [e]
    have h0 := openAt_bound (sd := 1) (p := q) (own := 0) (M := M 0) (fun y hy => by have := h.opns (j := 0) (by omega) y hy; omega)
    have h1 := openAt_bound (sd := 2) (p := q) (own := 0) (M := M 1) (fun y hy => by have := h.opns (j := 1) (by omega) y hy; omega)
    have := h.cap
    unfold tnAt
    split <;> simp only <;> omega

/-- What Open comes to. -/
def OpenPost (w : World) (b bx : Nat) (v : Nat → Value) (M : Nat → List Ord) (c : Array Value) (td vol : Int) (e : Ending) (w' : World) : Prop :=
  ∃ l v', e = .returned l ∧ MeetTo w w' b bx true v v' (openM M) c td vol l (openE M)

theorem MeetTo.trading {w wr : World} {b bx : Nat} {tr : Bool} {c : Array Value} {v v' : Nat → Value} {l : Value} {M : Nat → List Ord} {td vol : Int} {E : List Ev} (h : MeetTo w wr b bx tr v v' M c td vol l E) (hbl : b < w.heap.size) : MeetTo w (wr.setCell ⟨b, 0, none⟩ (.int .i64 2)) b bx true v v' M c td vol l E := by
  have hf : Fr (Is b) wr (wr.setCell ⟨b, 0, none⟩ (.int .i64 2)) := (Fr.refl _ _).setAt b (.inr (Is.self b)) _ _
  have hbb : ¬ Is b bx := fun e => h.px.apart (.inl e)
  refine ⟨⟨h.px.pb.setTr true, hf.heap h.px.tot hbb, h.px.size, h.px.apart⟩, h.fr.trans hf (fun q _ e => .inr (.inl e)), h.new, own_fr h.evs hf (fun g hg e => ?_), h.el⟩
  have e : g = b := e
  have := (h.evs.lt g hg).1
  omega

set_option maxHeartbeats 4000000 in
set_option maxRecDepth 20000 in
theorem bOpen_any (k b bx : Nat) (tr : Bool) (td : Int) (v : Nat → Value) (M : Nat → List Ord) (c : Array Value) (vol : Int) (hk : BkOk k M) (w : World) (h : PX w b bx tr td v M c vol) :
    Calls Tryz.prog 101 #[.pointer (some ⟨b, 0, none⟩)] w (OpenPost w b bx v M c (wrp (td + (openTn M).vol)) (wrp (vol + (openTn M).vol))) := by
  have hbx := h.lt bx (.inl rfl)
  have hbl := h.pb.lt
  have hpr : ∀ j, j < 2 → ∀ y ∈ M j, 1 ≤ y.price ∧ y.price ≤ 1000000 := fun j hj y hy => (hk.ord j hj y hy).1.price
  have hop : ∀ j, j < 2 → ∀ y ∈ M j, 1 ≤ y.opn ∧ y.opn ≤ 1000000 := fun j hj => hk.opns hj
  have hla := openTn_lasts hk
  have hno := And.intro (openTn_nonneg M) (openTn_le hk)
  have hTe : openE M = (tradeB M).2.2 ++ [openedE (openTn M).price (openTn M).vol] := rfl
  have hTl : (tradeB M).2.2.length ≤ 200 := by
    have := tradeF_evs (openTn M).price ((M 0).length + (M 1).length) (M 0) (M 1) (openTn M).vol []
    have hc := hk.cap
    unfold tradeB
    simp at this
    omega
  have hTB : tradeF (openTn M).price ((M 0).length + (M 1).length) (M 0) (M 1) (openTn M).vol [] = tradeB M := rfl
  have hOM : openM M = upd (upd M 0 (tradeB M).1) 1 (tradeB M).2.1 := rfl
  have HO := hide (And.intro hTe hOM)
  have HOP : Hid (Calls Tryz.prog 142 #[.pointer (some ⟨b, 0, none⟩)] w fun e w' => e = .returned (openTn M).val ∧ Fr No w w') := opening_any b bx tr td v M w h.pb hpr hop
  have hl : ∀ j, j < 2 → (M j).length ≤ 1000 := h.pb.len
  have HXS := hide h.lt
  clear hTe hOM
  generalize tradeB M = R at *
  generalize openTn M = T at *
  obtain ⟨tp, tv, tq⟩ := T
  simp only at *
  have HTR : Hid (∀ w', Fr No w w' → Calls Tryz.prog 143 #[.pointer (some ⟨b, 0, none⟩), .int .i64 tp, .int .i64 tv] w' (TradePost w' b bx tr v M c (wrp (td + tv)) (wrp (vol + tv)) R)) := fun w' hf =>
    tradeAt_any b bx tr td v M c vol tp tv w' (h.no hf) hop hla hno R hTB hl
  clear h hop hpr hla hno hTB hl hk
  generalize wrp (td + tv) = TD at *
  generalize wrp (vol + tv) = VOL at *
  go_enter Tryz.func101, Tryz.ntmps101
  go_wp2_with fail
  refine (unhide HOP).mono ?_
  rintro e w1 ⟨rfl, hf1⟩
  rw [show (⟨tp, tv, tq⟩ : Tn).val = .agg #[.int .i64 tp, .int .i64 tv, .int .i64 tq] from rfl]
  have HF1 := hide hf1
  clear hf1
  go_wp2_with fail
  generalize hW : World.alloc w1 _ = W
  have hf : Fr No w W := by rw [← hW]; exact (unhide HF1).alloc _
  have hq : W.heap[w1.heap.size]? = some (.cells #[.int .i64 tp, .int .i64 tv, .int .i64 tq] 201 (0, 0)) := by rw [← hW]; exact heap_alloc_new w1 _
  have hQw : w.heap.size ≤ w1.heap.size := (unhide HF1).size
  clear hW
  generalize hQ : w1.heap.size = Q at *
  have hb1 : b < W.heap.size := Nat.lt_of_lt_of_le hbl hf.size
  refine (unhide HTR W hf).mono ?_
  rintro e w2 ⟨l2, v2, rfl, hm2⟩
  have hm2w : MeetTo w w2 b bx tr v v2 (upd (upd M 0 R.1) 1 R.2.1) c TD VOL l2 R.2.2 :=
    ⟨hm2.px, hf.of_no.same hm2.fr, fun g hg => (hm2.new g hg).imp id (fun h => Nat.le_trans hf.size h), own_base hm2.evs (fun g hg => by have := (hm2.evs.lt g hg).1; have := hf.size; omega), hm2.el⟩
  have hq2 := hm2.fr.heap hq (fun e => by have := unhide HXS Q e; omega)
  obtain ⟨q0, q1, q2, -⟩ := box3 hq2
  have hQ2 := lt_of_heap hq2
  have hpb2 := hm2.px.pb
  have hb2 := hpb2.lt
  have hbc := hpb2.cells.1
  have hbz : w2.frozen? ⟨b, 0, none⟩ = false := frozen_heap hpb2.blk 0
  have hm3 := hm2w.trading hbl
  have hQb : Q ≠ b := by omega
  have hq3 : (w2.setCell ⟨b, 0, none⟩ (.int .i64 2)).heap[Q]? = some (.cells #[.int .i64 tp, .int .i64 tv, .int .i64 tq] 201 (0, 0)) := (heap_set_other hQb _ _).trans hq2
  have HM3 := hide (And.intro hm3 hq3)
  obtain ⟨r0, r1, r2, -⟩ := box3 hq3
  have hQ3 := lt_of_heap hq3
  clear hm2 hm2w hq2 hpb2 hm3 hq3
  obtain ⟨W3, hW3⟩ : ∃ W3, w2.setCell ⟨b, 0, none⟩ (.int .i64 2) = W3 := ⟨_, rfl⟩
  rw [hW3] at HM3 r0 r1 r2 hQ3
  go_wp2_with fail
  refine (eOpened_any tp tv W3).mono ?_
  rintro e w4 ⟨rfl, hf4⟩
  have hm4 := (unhide HM3).1.no hf4
  have HM4 := hide hm4
  have hsz4 : w.heap.size ≤ w4.heap.size := hm4.fr.size
  clear hm4 hf4 hW3
  rw [show (openedE tp tv).val = .agg #[.int .i64 6, .int .i64 0, .int .i64 0, .int .i64 tp, .int .i64 tv, .int .i64 0] from rfl]
  go_wp2_with (at_builtin; refine app_ev rfl (.tmp 16) (.tmp 22) rfl w.heap.size _ R.2.2 (own_fr (S := No) (unhide HM4).evs ((Fr.refl No _).alloc _) (fun _ _ => id)) rfl ⟨w4.heap.size, 0, none⟩ 1 1 [openedE tp tv] rfl rfl (by simp) (new_cells w4 (openedE tp tv).cells _) (by simp; omega) (by simp; omega) ?_; intro g9 c9 w9 hown9 hfr9 hat9 hlt9; have hm9 := (unhide HM4).more hbx ((Fr.refl No _).alloc _) hfr9 hown9 (hat9.imp id (fun h => by have : g9 = w4.heap.size + 1 := (by simpa using h); omega)); have HM9 := hide hm9; clear hm9 hown9 hfr9 hat9)
  go_ret
  refine ⟨_, v2, rfl, ?_⟩
  rw [(unhide HO).1, (unhide HO).2]
  exact unhide HM9

/-- What Close comes to. -/
theorem PB.gathering {w : World} {b bx : Nat} {tr : Bool} {td : Int} {v : Nat → Value} {M : Nat → List Ord} {c : Array Value} {vol : Int} (h : PX w b bx tr td v M c vol) : PX (w.setCell ⟨b, 0, none⟩ (.int .i64 1)) b bx false td v M c vol := by
  have hf : Fr (Is b) w (w.setCell ⟨b, 0, none⟩ (.int .i64 1)) := (Fr.refl _ _).setAt b (.inr (Is.self b)) _ _
  exact ⟨h.pb.setTr false, hf.heap h.tot (fun e => h.apart (.inl e)), h.size, h.apart⟩
set_option maxHeartbeats 1000000 in
theorem bClose_any (b bx : Nat) (tr : Bool) (td : Int) (v : Nat → Value) (M : Nat → List Ord) (c : Array Value) (vol : Int) (w : World) (h : PX w b bx tr td v M c vol) :
    Calls Tryz.prog 102 #[.pointer (some ⟨b, 0, none⟩)] w fun e w' => ∃ r, e = .returned r ∧ MeetTo w w' b bx false v v M c td vol r [closedE] := by
  have hbl := h.pb.lt
  have hbc := h.pb.cells.1
  have hbz : w.frozen? ⟨b, 0, none⟩ = false := frozen_heap h.pb.blk 0
  have HG := hide (And.intro (PB.gathering h) h.pb.blt)
  clear h
  go_enter Tryz.func102, Tryz.ntmps102
  go_wp2_with fail
  generalize hW : World.setCell w _ _ = W at *
  have hf : Fr (XS b bx v) w W := by rw [← hW]; exact (Fr.refl _ _).setAt b (.inr (.inr (.inl rfl))) _ _
  have HF := hide hf
  clear hW hf
  refine (eClosed_any W).mono ?_
  rintro e w1 ⟨rfl, hf1⟩
  have HF1 := hide hf1
  clear hf1
  rw [show closedE.val = .agg #[.int .i64 7, .int .i64 0, .int .i64 0, .int .i64 0, .int .i64 0, .int .i64 0] from rfl]
  go_wp2
  go_ret
  have hf2 := (unhide HF1).alloc (.cells #[.int .i64 7, .int .i64 0, .int .i64 0, .int .i64 0, .int .i64 0, .int .i64 0] 42)
  have hsz := (unhide HF).size
  have hs1 := (unhide HF1).size
  refine ⟨_, rfl, (unhide HG).1.no hf2, (unhide HF).quiet hf2, fun g hg => .inl hg, es_newAt closedE rfl (by omega), fun g hg e => ?_⟩
  have e1 := own_eq' hg
  have := (unhide HG).2 g e
  omega
set_option maxHeartbeats 400000 in
theorem bPhase_any (b bx : Nat) (tr : Bool) (td : Int) (v : Nat → Value) (M : Nat → List Ord) (w : World) (h : PB w b bx tr td v M) :
    Calls Tryz.prog 141 #[.pointer (some ⟨b, 0, none⟩)] w fun e w' => e = .returned (.int .i64 (if tr = true then 2 else 1)) ∧ w' = w := by
  have hc := h.cells.1
  clear h
  generalize (if tr = true then (2 : Int) else 1) = ph at *
  go_enter Tryz.func141, Tryz.ntmps141
  go_wp2
  go_ret
  exact ⟨rfl, rfl⟩
end Go.Proofs.YtigpgnjgmaoejaaGreat
