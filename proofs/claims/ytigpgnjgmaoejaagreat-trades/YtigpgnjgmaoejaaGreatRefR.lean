/- The document's takes in a book that trades: the loop of what is met. Conditions: the pit lies in memory, its numbers are such. -/
import Derived.Test.YtigpgnjgmaoejaaGreatTdAC
import Derived.Test.YtigpgnjgmaoejaaGreatRefHK
import Derived.Deep.CutRange
import Derived.Deep.LoopGhost
import Derived.Deep.RegionHeld3
namespace Go.Proofs.YtigpgnjgmaoejaaGreat
open Go.RowKit

theorem RefAt.setTd {w : World} {bp : Nat} {v : Value} {s : Ref} (h : RefAt w bp v s) (nb : Nat) (hb : nb < 9) (t : Int) : RefAt (w.setCell ⟨bp, 10 + nb, none⟩ (.int .i64 t)) bp v { s with td := setTd s.td nb t } := by
  refine ⟨?_, own_fr h.own ((Fr.refl (Is bp) _).setAt bp (.inr (Is.self bp)) _ _) (fun g hg e => h.apart (by rw [← show g = bp from e]; exact hg)), h.apart⟩
  rw [heap_set h.blk]
  match nb, hb with
  | 0, _ | 1, _ | 2, _ | 3, _ | 4, _ | 5, _ | 6, _ | 7, _ | 8, _ => rfl
theorem RefAt.setOpn {w : World} {bp g n cap : Nat} {s : Ref} (h : RefAt w bp (.slice (some ⟨g, 0, none⟩) n cap) s) (i : Nat) (hi : i < s.L.length) (c : Int) : RefAt (w.setCell ⟨g, i * 6 + 5, none⟩ (.int .i64 c)) bp (.slice (some ⟨g, 0, none⟩) n cap) { s with L := s.L.set i { s.L[i] with opn := c } } := by
  have hgb : bp ≠ g := fun e => h.apart (by rw [e]; rfl)
  exact ⟨(heap_set_other hgb _ _).trans h.blk, own_set Ord.len h.own i 5 hi (by omega) { s.L[i] with opn := c } (.int .i64 c) rfl, h.apart⟩

/-- What holds of memory between two that are met. N: the order's box. -/
structure MMid (w wr : World) (bp N nb : Nat) (v v' l : Value) (s : Ref) (x : Ord) (L : List Ord) (t o : Int) (E : List Ev) : Prop where
  ref : RefAt wr bp v' { s with L := L, td := setTd s.td nb t }
  fr : Fr (RefS bp v) w wr
  new : ∀ g, OwnS v' g → OwnS v g ∨ N < g
  evs : Es wr N l E
  el : ∀ g, OwnS l g → N < g ∧ ¬ OwnS v' g
  box : wr.heap[N]? = some (.cells #[.int .i64 x.id, .int .i64 x.trader, .int .i64 x.book, .int .i64 x.side, .int .i64 x.price, .int .i64 o] 95 (0, 0))

theorem MMid.no {w wr wr' : World} {bp N nb : Nat} {v v' l : Value} {s : Ref} {x : Ord} {L : List Ord} {t o : Int} {E : List Ev} (h : MMid w wr bp N nb v v' l s x L t o E) (hf : Fr No wr wr') : MMid w wr' bp N nb v v' l s x L t o E :=
  ⟨h.ref.no hf, h.fr.quiet hf, h.new, own_fr h.evs hf (fun _ _ => id), h.el, hf.heap h.box id⟩
/-- One is dropped. -/
theorem MMid.drop {w wr wr' : World} {bp N nb : Nat} {v v' v3 l : Value} {s : Ref} {x : Ord} {L L3 : List Ord} {t o : Int} {E : List Ev} (h : MMid w wr bp N nb v v' l s x L t o E) (hf : Fr (Is bp) wr wr') (hr : RefAt wr' bp v3 { s with L := L3, td := setTd s.td nb t }) (hv : ∀ g, v3.ownBlock = some g → wr.heap.size ≤ g) (hb : bp < N) :
    MMid w wr' bp N nb v v3 l s x L3 t o E := by
  have hbl := lt_of_heap h.box
  have hs := h.fr.size
  refine ⟨hr, h.fr.same (hf.mono fun _ _ e => .inl e), fun g hg => .inr (by have := hv g hg; omega), own_fr h.evs hf (fun g hg e => by have := (h.el g hg).1; have : g = bp := e; omega), fun g hg => ⟨(h.el g hg).1, fun e => ?_⟩, hf.heap h.box (fun e => by have : N = bp := e; omega)⟩
  have h1 := hv g e
  have h2 := (h.evs.lt g hg).2
  omega
/-- An event more. -/
theorem MMid.more {w wr wa wr' : World} {bp N nb g n c : Nat} {v v' l : Value} {s : Ref} {x : Ord} {L : List Ord} {t o : Int} {E E' : List Ev} (h : MMid w wr bp N nb v v' l s x L t o E) (ha : Fr No wr wa) (hf : Fr (OwnS l) wa wr') (he : Es wr' N (.slice (some ⟨g, 0, none⟩) n c) E') (hat : OwnS l g ∨ wr.heap.size ≤ g) (hN : w.heap.size = N) (hb : bp < N) :
    MMid w wr' bp N nb v v' (.slice (some ⟨g, 0, none⟩) n c) s x L t o E' := by
  have hbl := lt_of_heap h.box
  have hv := h.ref.own.lt
  have hlb : ∀ q, OwnS l q → q ≠ bp := fun q hq e => by have := (h.el q hq).1; omega
  refine ⟨(h.ref.no ha).fr hf (fun e => hlb bp e rfl) (fun q hq e => (h.el q e).2 hq), (h.fr.quiet ha).trans hf (fun q hq e => by have := (h.el q e).1; omega), h.new, he, fun q hq => ?_, (hf.heap (ha.heap h.box id) (fun e => by have := (h.el N e).1; omega))⟩
  have e := own_eq hq
  subst e
  rcases hat with h1 | h1
  · exact h.el _ h1
  · exact ⟨by omega, fun e => by have := (hv _ e).2; omega⟩
theorem MMid.out {w wr : World} {bp N nb : Nat} {v v' l : Value} {s : Ref} {x : Ord} {L : List Ord} {t o : Int} {E : List Ev} (h : MMid w wr bp N nb v v' l s x L t o E) (hN : w.heap.size = N) : RefOut w wr bp v v' { s with L := L, td := setTd s.td nb t } l E :=
  ⟨h.ref, h.fr, fun g hg => (h.new g hg).imp id (fun h => by omega), by rw [hN]; exact h.evs, fun g hg => (h.el g hg).2⟩

/-- The order rests. -/
theorem MMid.rest {w wr wa w1 : World} {bp N nb g n c : Nat} {v v' l : Value} {s : Ref} {x : Ord} {L L' : List Ord} {t o : Int} {E : List Ev} (h : MMid w wr bp N nb v v' l s x L t o E) (ha : Fr No wr wa) (hf : Fr (OwnS v') wa w1) (ho : Os w1 0 (.slice (some ⟨g, 0, none⟩) n c) L') (hat : OwnS v' g ∨ wr.heap.size ≤ g) (hb : bp < N) (hN : w.heap.size = N) (hv : ∀ q, OwnS v q → q < N) :
    MMid w (w1.setCell ⟨bp, 0, none⟩ (.slice (some ⟨g, 0, none⟩) n c)) bp N nb v (.slice (some ⟨g, 0, none⟩) n c) l s x L' t o E := by
  have hbl := lt_of_heap h.box
  have hv' : ∀ q, OwnS v' q → q ≠ bp := fun q hq e => h.ref.apart (e ▸ hq)
  have hb1 := hf.heap (ha.heap h.ref.blk id) (fun e => hv' bp e rfl)
  have hff : Fr (RefS bp v') wr (w1.setCell ⟨bp, 0, none⟩ (.slice (some ⟨g, 0, none⟩) n c)) :=
    Fr.setAt (S := RefS bp v') (Fr.same ha.of_no (hf.mono fun i _ hi => Or.inr hi)) bp (.inr (Or.inl rfl)) 0 _
  refine ⟨ref_store hb1 ho ?_, h.fr.trans hff ?_, ?_, own_fr h.evs hff ?_, ?_, hff.heap h.box ?_⟩
  · intro q hq e
    have e1 := own_eq hq
    subst e1
    rcases hat with h1 | h1
    · exact hv' _ h1 e
    · omega
  · rintro q hq (e | e)
    · exact .inl e
    · rcases h.new q e with h1 | h1
      · exact .inr h1
      · omega
  · intro q hq
    have e1 := own_eq hq
    subst e1
    rcases hat with h1 | h1
    · exact h.new _ h1
    · exact .inr (by omega)
  · rintro q hq (e | e)
    · have := (h.el q hq).1; omega
    · exact (h.el q hq).2 e
  · intro q hq
    refine ⟨(h.el q hq).1, fun e => ?_⟩
    have e1 := own_eq e
    subst e1
    rcases hat with h1 | h1
    · exact (h.el _ hq).2 h1
    · have := (h.evs.lt _ hq).2; omega
  · rintro (e | e)
    · omega
    · rcases h.new N e with h1 | h1
      · have := hv N h1; omega
      · omega

theorem MMid.ne {w wr : World} {bp N nb : Nat} {v v' l : Value} {s : Ref} {x : Ord} {L : List Ord} {t o : Int} {E : List Ev} (h : MMid w wr bp N nb v v' l s x L t o E) (hv : ∀ q, OwnS v q → q < N) : ∀ q, OwnS v' q → q ≠ N := fun q hq e => by
  rcases h.new q hq with h1 | h1
  · have := hv q h1; omega
  · omega
theorem MMid.setO {w wr : World} {bp N nb : Nat} {v v' l : Value} {s : Ref} {x : Ord} {L : List Ord} {t o : Int} {E : List Ev} (h : MMid w wr bp N nb v v' l s x L t o E) (hN : w.heap.size = N) (hb : bp < N) (hv : ∀ q, OwnS v q → q < N) (o' : Int) :
    MMid w (wr.setCell ⟨N, 5, none⟩ (.int .i64 o')) bp N nb v v' l s x L t o' E := by
  have hf : Fr (Is N) wr (wr.setCell ⟨N, 5, none⟩ (.int .i64 o')) := (Fr.refl _ _).setAt N (.inr (Is.self N)) _ _
  refine ⟨h.ref.fr hf (fun e => by have : bp = N := e; omega) (fun q hq e => h.ne hv q hq e), h.fr.trans hf (fun q hq e => by have : q = N := e; omega), h.new, own_fr h.evs hf (fun q hq e => by have := (h.el q hq).1; have : q = N := e; omega), h.el, ?_⟩
  rw [heap_set h.box]; rfl
theorem MMid.setY {w wr : World} {bp N nb g n cap : Nat} {v l : Value} {s : Ref} {x : Ord} {L : List Ord} {t o : Int} {E : List Ev} (h : MMid w wr bp N nb v (.slice (some ⟨g, 0, none⟩) n cap) l s x L t o E) (hN : w.heap.size = N) (hv : ∀ q, OwnS v q → q < N) (i : Nat) (hi : i < L.length) (c : Int) :
    MMid w (wr.setCell ⟨g, i * 6 + 5, none⟩ (.int .i64 c)) bp N nb v (.slice (some ⟨g, 0, none⟩) n cap) l s x (L.set i { L[i] with opn := c }) t o E := by
  have hf : Fr (Is g) wr (wr.setCell ⟨g, i * 6 + 5, none⟩ (.int .i64 c)) := (Fr.refl _ _).setAt g (.inr (Is.self g)) _ _
  have hg : OwnS (.slice (some ⟨g, 0, none⟩) n cap) g := rfl
  refine ⟨h.ref.setOpn i hi c, h.fr.trans hf (fun q hq e => ?_), h.new, own_fr h.evs hf (fun q hq e => ?_), h.el, hf.heap h.box (fun e => h.ne hv g hg (Eq.symm e))⟩
  · have e : q = g := e
    subst e
    rcases h.new q hg with h1 | h1
    · exact .inr h1
    · omega
  · have e : q = g := e
    subst e
    exact (h.el q hq).2 hg
theorem MMid.setT {w wr : World} {bp N nb : Nat} {v v' l : Value} {s : Ref} {x : Ord} {L : List Ord} {t o : Int} {E : List Ev} (h : MMid w wr bp N nb v v' l s x L t o E) (hb : bp < N) (hn : nb < 9) (t' : Int) :
    MMid w (wr.setCell ⟨bp, 10 + nb, none⟩ (.int .i64 t')) bp N nb v v' l s x L t' o E := by
  have hf : Fr (Is bp) wr (wr.setCell ⟨bp, 10 + nb, none⟩ (.int .i64 t')) := (Fr.refl _ _).setAt bp (.inr (Is.self bp)) _ _
  have e : setTd (setTd s.td nb t) nb t' = setTd s.td nb t' := by funext k; unfold setTd; split <;> rfl
  have hr := h.ref.setTd nb hn t'
  simp only [e] at hr
  exact ⟨hr, h.fr.same (hf.mono fun _ _ e => .inl e), h.new, own_fr h.evs hf (fun q hq e => by have := (h.el q hq).1; have : q = bp := e; omega), h.el, hf.heap h.box (fun e => by have : N = bp := e; omega)⟩
theorem MMid.td {w wr : World} {bp N nb : Nat} {v v' l : Value} {s : Ref} {x : Ord} {L : List Ord} {t o : Int} {E : List Ev} (h : MMid w wr bp N nb v v' l s x L t o E) (hn : nb < 9) : wr.cell? ⟨bp, 10 + nb, none⟩ = some (.int .i64 t) := by
  rw [cell_heap h.ref.blk]
  match nb, hn with
  | 0, _ | 1, _ | 2, _ | 3, _ | 4, _ | 5, _ | 6, _ | 7, _ | 8, _ => simp [refCells, setTd]
theorem least_bounds {o c : Int} (h1 : 0 < o) (h2 : 1 ≤ c) : 1 ≤ leastI o c ∧ leastI o c ≤ o ∧ leastI o c ≤ c ∧ (leastI o c = c ∨ leastI o c = o) := by
  unfold leastI; split <;> omega

theorem MMid.setP {w wr : World} {bp N nb : Nat} {v v' l : Value} {s : Ref} {x : Ord} {L : List Ord} {t o : Int} {E : List Ev} (h : MMid w wr bp N nb v v' l s x L t o E) (hN : w.heap.size = N) (hb : bp < N) (hv : ∀ q, OwnS v q → q < N) (p : Int) :
    MMid w (wr.setCell ⟨N, 4, none⟩ (.int .i64 p)) bp N nb v v' l s { x with price := p } L t o E := by
  have hf : Fr (Is N) wr (wr.setCell ⟨N, 4, none⟩ (.int .i64 p)) := (Fr.refl _ _).setAt N (.inr (Is.self N)) _ _
  refine ⟨h.ref.fr hf (fun e => by have : bp = N := e; omega) (fun q hq e => h.ne hv q hq e), h.fr.trans hf (fun q hq e => by have : q = N := e; omega), h.new, own_fr h.evs hf (fun q hq e => by have := (h.el q hq).1; have : q = N := e; omega), h.el, ?_⟩
  rw [heap_set h.box]; rfl
theorem wrp_plus {t tw n : Int} (h : wrp t = tw) : IntKind.i64.wrap (tw + n) = wrp (t + n) := by
  rw [← h]; unfold wrp; rw [IntKind.wrap_i64, IntKind.wrap_i64, IntKind.wrap_i64]; omega

set_option maxHeartbeats 8000000 in
set_option maxRecDepth 100000 in
theorem takes_trades (bp : Nat) (v : Value) (s : Ref) (x : Ord) (p0 kind : Int) (w : World) (hr : RefAt w bp v s) (hn : s.L.length < 10000)
    (nb : Nat) (hbk : x.book = nb) (hb1 : 1 ≤ nb) (hb8 : nb ≤ 8) (hsd : x.side = 1 ∨ x.side = 2) (htr : s.tr nb = true) (hp : p0 = x.price ∧ 1 ≤ p0 ∨ p0 = 0 ∧ x.price = if x.side = 2 then 1 else 1000000) (ho : 1 ≤ x.opn ∧ x.opn ≤ 1000000)
    (hop : ∀ y ∈ s.L, 1 ≤ y.opn ∧ y.opn ≤ 1000000) (htd : wrp (s.td nb) = s.td nb) (R : List Ord × Int × Int × List Ev) (hR : mWhile x (s.L.length + 1) s.L (s.td nb) x.opn [takenE x.id x.opn] = R) :
    Calls Tryz.prog 117 #[.pointer (some ⟨bp, 0, none⟩), ({ x with price := p0 } : Ord).val, .int .i64 kind] w fun e w' => ∃ r v', e = .returned r ∧ RefOut w w' bp v v' (takesT s nb x kind R).1 r (takesT s nb x kind R).2 := by
  have hbp := hr.lt
  have HR := hide hr
  have hcz : (0 : Int) ≤ (nb : Int) := by omega
  have hc9 : (nb : Int) < 9 := by omega
  have HA := hide (And.intro hn (And.intro hsd (And.intro hop (And.intro htd hR))))
  have HTR := hide htr
  clear hr htr hn hop htd hR
  unfold Ord.val
  simp only
  rw [hbk]
  go_enter Tryz.func117, Tryz.ntmps117
  go_upto_if 20 with fail
  generalize hW : World.alloc (World.alloc w _) _ = W
  have hWf : Fr No w W := by rw [← hW]; exact ((Fr.refl _ _).alloc _).alloc _
  have hWx : W.heap[w.heap.size]? = some (.cells #[.int .i64 x.id, .int .i64 x.trader, .int .i64 x.book, .int .i64 x.side, .int .i64 p0, .int .i64 x.opn] 95 (0, 0)) := by
    rw [← hW, hbk]; exact ((Fr.refl No _).alloc _).heap (heap_alloc_new w _) id
  have hWl : Es W w.heap.size (.slice (some ⟨w.heap.size + 1, 0, none⟩) 1 1) [takenE x.id x.opn] := by
    rw [← hW]
    exact es_newAt (takenE x.id x.opn) (w := w.alloc _) (by simp) (by simp)
  have hvl := (unhide HR).own.lt
  have hM0 : MMid w W bp w.heap.size nb v v (.slice (some ⟨w.heap.size + 1, 0, none⟩) 1 1) s { x with price := p0 } s.L (s.td nb) x.opn [takenE x.id x.opn] :=
    ⟨by rw [setTd_self]; exact (unhide HR).no hWf, hWf.of_no, fun g hg => .inl hg, hWl, fun g hg => by
      have e := own_eq hg
      subst e
      exact ⟨by omega, fun e => by have := (hvl _ e).2; omega⟩, hWx⟩
  have hvN : ∀ q, OwnS v q → q < w.heap.size := fun q hq => (hvl q hq).2
  generalize hN : w.heap.size = N at *
  have HN := hide hN
  have hNW := lt_of_heap hWx
  obtain ⟨x0, x1, x2, x3, x4, x5, xfz⟩ := box6 hWx
  rw [hbk] at x2
  have xf4 := xfz 4
  have HM0 := hide hM0
  have HVL := hide hvN
  clear hW hWf hWx hWl hM0 hN hvl hvN xfz
  go_cut [7] from 21 to 25 (fun s7 wx => s7 = .slice (some ⟨N + 1, 0, none⟩) 1 1 ∧ MMid w wx bp N nb v v (.slice (some ⟨N + 1, 0, none⟩) 1 1) s x s.L (s.td nb) x.opn [takenE x.id x.opn])
  case first =>
    rcases hp with ⟨hp1, hp2⟩ | ⟨hp1, hp2⟩
    · subst hp1
      have hp0 : (x.price == 0) = false := by simp; omega
      go_wp2_with fail
      go_meet
      exact ⟨rfl, unhide HM0⟩
    · subst hp1
      rcases hsd with e | e
      · rw [e] at x3
        rw [e, if_neg (by decide)] at hp2
        go_wp2_with fail
        go_meet
        have := (unhide HM0).setP (unhide HN) hbp (unhide HVL) 1000000
        rw [← hp2] at this
        exact ⟨rfl, by rw [← hp2]; exact this⟩
      · rw [e] at x3
        rw [e, if_pos rfl] at hp2
        go_wp2_with fail
        go_meet
        have := ((unhide HM0).setP (unhide HN) hbp (unhide HVL) 1000000).setP (unhide HN) hbp (unhide HVL) 1
        rw [← hp2] at this
        exact ⟨rfl, by rw [← hp2]; exact this⟩
  case rest =>
  obtain ⟨rfl, hM0⟩ := hcut
  clear HM0 x0 x1 x2 x3 x4 x5 xf4 hp hNW HVL
  have hRW : RefAt wc bp v s := by have := hM0.ref; rw [setTd_self] at this; exact this
  obtain ⟨x0, x1, x2, x3, x4, x5, _⟩ := box6 hM0.box
  rw [hbk] at x2
  have hNW := lt_of_heap hM0.box
  have hbW : bp < wc.heap.size := hRW.lt
  have hT1 := hRW.cellTr nb (by omega)
  rw [unhide HTR] at hT1
  have HM0 := hide hM0
  have HRW := hide hRW
  clear hM0 hRW
  go_wp2
  go_region_held3 (fun w' : World => w'.cell? ⟨bp, 1 + nb, none⟩ = some (.bool true) ∧ w'.cell? ⟨N, 0, none⟩ = some (.int .i64 x.id) ∧ w'.cell? ⟨N, 1, none⟩ = some (.int .i64 x.trader) ∧ w'.cell? ⟨N, 2, none⟩ = some (.int .i64 nb) ∧ w'.cell? ⟨N, 3, none⟩ = some (.int .i64 x.side) ∧ w'.cell? ⟨N, 4, none⟩ = some (.int .i64 x.price) ∧ w'.cell? ⟨N, 5, none⟩ = some (.int .i64 x.opn)) (go_keep)
    (first | (go_at_call 114; refine (crosses_any bp v s ⟨x.id, x.trader, nb, x.side, x.price, x.opn⟩ _ ((unhide HRW).no (by repeat (first | exact Fr.refl _ _ | refine Fr.drew ?_))) (by have := (unhide HA).1; omega) (by have := (unhide HA).2.1; show (1 : Int) ≤ x.side; omega) (by have := (unhide HA).2.1; show x.side ≤ (2 : Int); omega)).mono ?_; rintro e w1 ⟨rfl, hf1'⟩; rw [show crossB s.L ⟨x.id, x.trader, nb, x.side, x.price, x.opn⟩ = crossB s.L x from (by rw [← hbk])]; have hf1 : Fr No wc w1 := Fr.quiet ((Fr.refl _ _).drew) hf1'; have hM1 := (unhide HM0).no hf1; obtain ⟨y0, y1, y2, y3, y4, y5, _⟩ := box6 hM1.box; rw [hbk] at y2; have hT2 := (hf1.below.cell (p := ⟨bp, 1 + nb, none⟩) hbW).trans hT1; have hN1 := lt_of_heap hM1.box; have hb1' : bp < w1.heap.size := (by have := hf1.size; omega); have HM1 := hide hM1; clear hf1 hf1' hM1))
  go_wp2
  clear x0 x1 x2 x3 x4 x5 y0 y1 y2 y3 y4 y5 hT1 hT2
  go_loopg [7, 8] (s.L.length + 1) (fun f l more wr => ∃ L t o E v', more = .bool (crossB L x) ∧ MMid w wr bp N nb v v' l s x L (wrp t) o E ∧ mWhile x f L t o E = R ∧ L.length < f + (if 0 < o then 0 else 1) ∧ E.length + L.length ≤ 20000 + (if 0 < o then 0 else 1) ∧ L.length ≤ 10000 ∧ (∀ y ∈ L, 1 ≤ y.opn ∧ y.opn ≤ 1000000) ∧ (0 ≤ o ∧ o ≤ 1000000))
  case atStart => exact ⟨s.L, s.td nb, x.opn, [takenE x.id x.opn], v, rfl, by rw [(unhide HA).2.2.2.1]; exact unhide HM1, (unhide HA).2.2.2.2, by omega, by have := (unhide HA).1; simp; omega, by have := (unhide HA).1; omega, (unhide HA).2.2.1, by omega⟩
  case round =>
    obtain ⟨L, t, o, E, v', rfl, hm, hmw, hfl, hEl, hLl, hop, ⟨ho0, ho1⟩⟩ := hrel
    generalize htw : wrp t = tw at hm
    have HTW := hide htw
    clear htw
    obtain ⟨y0, y1, y2, y3, y4, y5, hyf⟩ := box6 hm.box
    rw [hbk] at y2
    have hN1 := lt_of_heap hm.box
    by_cases hgo : crossB L x = true ∧ 0 < o
    · obtain ⟨hcr, hop0⟩ := hgo
      have hob : decide (o > 0) = true := by simpa using hop0
      rw [hcr]
      obtain ⟨i, hb⟩ : ∃ i, bestO L x.book (3 - x.side) = some i := by
        cases hb : bestO L x.book (3 - x.side) with
        | none => simp [crossB, hb] at hcr
        | some i => exact ⟨i, rfl⟩
      have hi := bestO_lt hb
      have hb2 : bestO L nb (3 - x.side) = some i := by rw [← hbk]; exact hb
      have HMM := hide hm
      have HST := hide (And.intro hmw (And.intro hop (And.intro hb hcr)))
      clear hm hmw hop hb
      by_cases ht : L[i].trader = x.trader
      · have htb : (L[i].trader == x.trader) = true := by simpa using ht
        have hY : ∀ W : World, (W.alloc (Obj.cells #[.int .i64 L[i].id, .int .i64 x.trader, .int .i64 L[i].book, .int .i64 L[i].side, .int .i64 L[i].price, .int .i64 L[i].opn] 95)).heap[W.heap.size]? = some (.cells #[.int .i64 L[i].id, .int .i64 x.trader, .int .i64 L[i].book, .int .i64 L[i].side, .int .i64 L[i].price, .int .i64 L[i].opn] 95 (0, 0)) := fun W => heap_alloc_new W _
        have HY := hide hY
        clear hY
        go_wp2_with (go_at_call 122; refine (best_any bp v' _ _ _ _ ((unhide HMM).ref.no (by repeat (first | exact Fr.refl _ _ | refine Fr.drewN ?_ _ | refine Fr.drew ?_))) (by show L.length ≤ 100000; omega)).mono ?_; rintro e w2 ⟨rfl, hf2⟩; rw [show ({ s with L := L, td := setTd s.td nb tw } : Ref).L = L from rfl, hb2, show enc (some i) = (i : Int) from rfl]; have hm2 := (unhide HMM).no (Fr.quiet (by repeat (first | exact Fr.refl _ _ | refine Fr.drewN ?_ _ | refine Fr.drew ?_)) hf2); clear hf2; have hL := hm2.ref.cellL; have hfz := hm2.ref.frozen; obtain ⟨a, cap, rfl⟩ := hm2.ref.form; obtain ⟨g, rfl, hg, hofz, c0, c1, c2, c3, c4, c5, cz⟩ := os_at hm2.ref.own i hi; have hi0 : (0 : Int) ≤ (i : Int) := (by omega); have hin : (i : Int) < L.length := (by omega); have HM2 := hide hm2; obtain ⟨z0, z1, z2, z3, z4, z5, hzf⟩ := box6 hm2.box; rw [hbk] at z2; have hN2 := lt_of_heap hm2.box; clear hm2 y0 y1 y2 y3 y4 y5)
        refine (drop_any bp _ _ i _ ((unhide HM2).ref.no ((Fr.refl _ _).alloc _)) (by show L.length ≤ 100000; omega)).mono ?_
        rintro e w3 ⟨rfl, v3, hr3, hf3, hv3⟩
        have hm3 := ((unhide HM2).no ((Fr.refl _ _).alloc _)).drop hf3 hr3 hv3 hbp
        obtain ⟨p0, p1, p2, p3, p4, p5, hpf⟩ := box6 (hf3.heap (unhide HY w2) (fun e => by have : w2.heap.size = bp := e; omega))
        have hYL := lt_of_heap (hf3.heap (unhide HY w2) (fun e => by have : w2.heap.size = bp := e; omega))
        have HM3 := hide hm3
        clear hm3 hr3 hf3 hv3 z0 z1 z2 z3 z4 z5 c0 c1 c2 c3 c4 c5
        go_wp2_with fail
        refine (gone_any _ _ _).mono ?_
        rintro e w4 ⟨rfl, hf4⟩
        have hm4 := (unhide HM3).no hf4
        obtain ⟨z0, z1, z2, z3, z4, z5, hzf⟩ := box6 hm4.box
        rw [hbk] at z2
        have hN4 := lt_of_heap hm4.box
        have HM4 := hide hm4
        clear hm4 hf4
        rw [show (goneE L[i].id L[i].opn).val = .agg #[.int .i64 5, .int .i64 L[i].id, .int .i64 0, .int .i64 0, .int .i64 L[i].opn, .int .i64 0] from rfl]
        go_wp2_with (first | (at_builtin; refine app_ev rfl (.tmp 66) (.tmp 72) rfl N _ E (own_fr (S := No) (unhide HM4).evs ((Fr.refl No _).alloc _) (fun _ _ => id)) rfl ⟨w4.heap.size, 0, none⟩ 1 1 [goneE L[i].id L[i].opn] rfl rfl (by simp) (new_cells w4 (goneE L[i].id L[i].opn).cells _) (by simp; split at hEl <;> omega) (by simp; omega) ?_; intro g9 c9 w9 hown9 hfr9 hat9 hlt9; have hm9 := (unhide HM4).more ((Fr.refl No _).alloc _) hfr9 hown9 (hat9.imp id (fun h => by have : g9 = w4.heap.size + 1 := (by simpa using h); omega)) (unhide HN) hbp; obtain ⟨k0, k1, k2, k3, k4, k5, hkf⟩ := box6 hm9.box; rw [hbk] at k2; have hN9 := lt_of_heap hm9.box; have HM9 := hide hm9; clear hm9 hown9 hfr9 hat9 z0 z1 z2 z3 z4 z5 p0 p1 p2 p3 p4 p5) | (go_at_call 114; refine (crosses_any bp v3 _ ⟨x.id, x.trader, nb, x.side, x.price, o⟩ _ ((unhide HM9).ref.no (by repeat (first | exact Fr.refl _ _ | refine Fr.drewN ?_ _ | refine Fr.drew ?_))) (by show (L.eraseIdx i).length ≤ 100000; rw [List.length_eraseIdx]; split <;> omega) (by show (1 : Int) ≤ x.side; omega) (by show x.side ≤ (2 : Int); omega)).mono ?_; rintro e w10 ⟨rfl, hf10⟩; rw [show crossB (L.eraseIdx i) ⟨x.id, x.trader, nb, x.side, x.price, o⟩ = crossB (L.eraseIdx i) x from (by rw [← hbk]; rfl)]; have hm10 := (unhide HM9).no (Fr.quiet (by repeat (first | exact Fr.refl _ _ | refine Fr.drewN ?_ _ | refine Fr.drew ?_)) hf10); clear hf10))
        obtain ⟨hmw, hop, hb, -⟩ := unhide HST
        rw [if_pos hop0] at hfl hEl
        have hle : (L.eraseIdx i).length = L.length - 1 := by rw [List.length_eraseIdx, if_pos hi]
        have hgk : gk - 1 + 1 = gk := by omega
        go_roundg (gk - 1)
        case rel => exact ⟨L.eraseIdx i, t, o, E ++ [goneE L[i].id L[i].opn], v3, rfl, by rw [unhide HTW]; exact hm10, by rw [← hmw, ← hgk, mWhile_own hcr hop0 hb hi ht, hgk], by rw [hle, if_pos hop0]; omega, by rw [hle, if_pos hop0, List.length_append]; simp; omega, by rw [hle]; omega, fun y hy => hop y (List.mem_of_mem_eraseIdx hy), ⟨ho0, ho1⟩⟩
        case measure => omega
      · have htb : (L[i].trader == x.trader) = false := by simpa using ht
        go_wp2_with (go_at_call 122; refine (best_any bp v' _ _ _ _ ((unhide HMM).ref.no (by repeat (first | exact Fr.refl _ _ | refine Fr.drewN ?_ _ | refine Fr.drew ?_))) (by show L.length ≤ 100000; omega)).mono ?_; rintro e w2 ⟨rfl, hf2⟩; rw [show ({ s with L := L, td := setTd s.td nb tw } : Ref).L = L from rfl, hb2, show enc (some i) = (i : Int) from rfl]; have hm2 := (unhide HMM).no (Fr.quiet (by repeat (first | exact Fr.refl _ _ | refine Fr.drewN ?_ _ | refine Fr.drew ?_)) hf2); clear hf2; have hL := hm2.ref.cellL; have hfz := hm2.ref.frozen; obtain ⟨a, cap, rfl⟩ := hm2.ref.form; obtain ⟨g, rfl, hg, hofz, c0, c1, c2, c3, c4, c5, cz⟩ := os_at hm2.ref.own i hi; have hi0 : (0 : Int) ≤ (i : Int) := (by omega); have hin : (i : Int) < L.length := (by omega); have HM2 := hide hm2; obtain ⟨z0, z1, z2, z3, z4, z5, hzf⟩ := box6 hm2.box; rw [hbk] at z2; have hN2 := lt_of_heap hm2.box; clear hm2 y0 y1 y2 y3 y4 y5)
        have hyo := (unhide HST).2.1 L[i] (List.getElem_mem hi)
        have hlb := least_bounds hop0 hyo.1
        refine (least_any _ _ _).mono ?_
        rintro e w3 ⟨rfl, rfl⟩
        generalize hn : leastI o L[i].opn = n at *
        obtain ⟨hn1, hn2, hn3, hn4⟩ := hlb
        have hvN : ∀ q, OwnS v q → q < N := fun q hq => by have := ((unhide HR).own.lt q hq).2; have := unhide HN; omega
        have hgN : g ≠ N := (unhide HM2).ne hvN g rfl
        have hgb : g ≠ bp := fun e => (unhide HM2).ref.apart (by rw [← e]; rfl)
        have hzf5 := hzf 5
        have hcz5 := cz (i * 6 + 5)
        have hTD := (unhide HM2).td (by omega : nb < 9)
        have hfz10 := hfz (10 + nb)
        have hyo2 : L[i].opn ≤ 1000000 := hyo.2
        clear hyo hTD hfz10 hzf5 hcz5
        have HVN := hide hvN
        clear hvN
        go_wp2_with fail
        generalize hW3 : World.alloc (World.setCell w2 _ _) _ = W3
        have hm3 : MMid w W3 bp N nb v (.slice (some ⟨g, 0, none⟩) L.length cap) u7 s x L tw (o - n) E := by
          rw [← hW3]; exact ((unhide HM2).setO (unhide HN) hbp (unhide HVN) (o - n)).no ((Fr.refl _ _).alloc _)
        have hYb : W3.heap[w2.heap.size]? = some (.cells #[.int .i64 L[i].id, .int .i64 L[i].trader, .int .i64 L[i].book, .int .i64 L[i].side, .int .i64 L[i].price, .int .i64 L[i].opn] 95 (0, 0)) := by
          rw [← hW3]; exact heap_newAt _ _ (by simp [World.setCell])
        generalize hYn : w2.heap.size = Y at *
        have hYl := lt_of_heap hYb
        obtain ⟨p0, p1, p2, p3, p4, p5, hpf⟩ := box6 hYb
        have hL3 := hm3.ref.cellL
        obtain ⟨g', ge, hg3, -, -, -, -, -, -, cY, hcf⟩ := os_at hm3.ref.own i hi
        obtain rfl : g = g' := by simpa using ge
        have hcf5 := hcf (i * 6 + 5)
        have hb3 : bp < W3.heap.size := by omega
        have hYg : g ≠ Y := by omega
        have hYN : N ≠ Y := by omega
        have HM3 := hide hm3
        have HYB := hide hYb
        clear hm3 hYb hW3 hcf hpf hzf cz hL hfz hYn c0 c1 c2 c3 c4 c5 z0 z1 z2 z3 z4 z5 hofz HMM HM2 hN1
        go_region_held3 (fun w' : World => w'.cell? ⟨bp, 0, none⟩ = some (.slice (some ⟨g, 0, none⟩) L.length cap) ∧ w'.cell? ⟨Y, 5, none⟩ = some (.int .i64 L[i].opn)) (go_keep) (fail)
        have hwr : IntKind.i64.wrap (L[i].opn - n) = L[i].opn - n := by rw [IntKind.wrap_i64]; omega
        rw [hwr]
        generalize hW4 : World.drew (World.setCell W3 _ _) = W4
        have hm4 : MMid w W4 bp N nb v (.slice (some ⟨g, 0, none⟩) L.length cap) u7 s x (L.set i { L[i] with opn := L[i].opn - n }) tw (o - n) E := by
          rw [← hW4]; exact ((unhide HM3).setY (unhide HN) (unhide HVN) i hi (L[i].opn - n)).no ((Fr.refl _ _).drew)
        have hYb4 : W4.heap[Y]? = some (.cells #[.int .i64 L[i].id, .int .i64 L[i].trader, .int .i64 L[i].book, .int .i64 L[i].side, .int .i64 L[i].price, .int .i64 L[i].opn] 95 (0, 0)) := by
          rw [← hW4]; exact (((Fr.refl (Is g) _).setAt g (.inr (Is.self g)) _ _).drew).heap (unhide HYB) (fun e => hYg (Eq.symm e))
        have hYl4 := lt_of_heap hYb4
        obtain ⟨q0, q1, q2, q3, q4, q5, -⟩ := box6 hYb4
        have HM4 := hide hm4
        have HYB4 := hide hYb4
        clear hm4 hYb4 hW4 p0 p1 p2 p3 p4 p5 cY hcf5 hL3 hwr HM3 HYB
        by_cases hfull : L[i].opn = n
        have hfb : (L[i].opn == n) = true := by simpa using hfull
        have HFU := hide hfull
        clear hfull
        go_wp2_with fail
        refine (drop_any bp _ _ i _ (unhide HM4).ref (by show (L.set i _).length ≤ 100000; simp; omega)).mono ?_
        rintro e W5 ⟨rfl, v5, hr5, hf5, hv5⟩
        have hm5 := (unhide HM4).drop hf5 hr5 hv5 hbp
        have hYb5 := hf5.heap (unhide HYB4) (fun e => by have : Y = bp := e; omega)
        generalize hL5 : (L.set i { L[i] with opn := L[i].opn - n }).eraseIdx i = L5 at hm5
        have HL5 : Hid (L5 = (if L[i].opn = n then L.eraseIdx i else L.set i { L[i] with opn := L[i].opn - n })) := by
          show _ = _
          rw [if_pos (unhide HFU), ← hL5, List.eraseIdx_set_eq]
        clear hr5 hf5 hv5 hL5
        rotate_left
        have hfb : (L[i].opn == n) = false := by simpa using hfull
        have HFU := hide hfull
        clear hfull
        have hm5 := unhide HM4
        have hYb5 := unhide HYB4
        generalize hL5 : L.set i { L[i] with opn := L[i].opn - n } = L5 at hm5
        have HL5 : Hid (L5 = (if L[i].opn = n then L.eraseIdx i else L.set i { L[i] with opn := L[i].opn - n })) := by
          show _ = _
          rw [if_neg (unhide HFU), ← hL5]
        clear hL5
        generalize hv5 : Value.slice (some ⟨g, 0, none⟩) L.length cap = v5 at hm5
        clear hv5
        have hW5 : ∃ W, W = W4 := ⟨W4, rfl⟩
        obtain ⟨W5, hW5⟩ := hW5
        subst hW5
        all_goals
          clear q0 q1 q2 q3 q4 q5 HM4 HYB4
          have hYl5 := lt_of_heap hYb5
          obtain ⟨q0, q1, q2, q3, q4, q5, -⟩ := box6 hYb5
          obtain ⟨z0, z1, z2, z3, z4, z5, -⟩ := box6 hm5.box
          rw [hbk] at z2
          have hN5 := lt_of_heap hm5.box
          have hTD := hm5.td (by omega : nb < 9)
          have hTF := hm5.ref.frozen (10 + nb)
          have hb5 : bp < W5.heap.size := by omega
          have HM5 := hide hm5
          have HYB5 := hide hYb5
          clear hm5 hYb5
          go_wp2_with fail
          go_region_law (fail)
          all_goals
            have hwt : IntKind.i64.wrap (tw + n) = wrp (t + n) := wrp_plus (unhide HTW)
            rw [hwt]
            generalize hW6 : World.drew (World.setCell W5 _ _) = W6
            have hm6 : MMid w W6 bp N nb v v5 u7 s x L5 (wrp (t + n)) (o - n) E := by
              rw [← hW6]; exact ((unhide HM5).setT hbp (by omega) (wrp (t + n))).no ((Fr.refl _ _).drew)
            have hYb6 : W6.heap[Y]? = some (.cells #[.int .i64 L[i].id, .int .i64 L[i].trader, .int .i64 L[i].book, .int .i64 L[i].side, .int .i64 L[i].price, .int .i64 L[i].opn] 95 (0, 0)) := by
              rw [← hW6]; exact (((Fr.refl (Is bp) _).setAt bp (.inr (Is.self bp)) _ _).drew).heap (unhide HYB5) (fun e => by have : Y = bp := e; omega)
            have hYl6 := lt_of_heap hYb6
            clear q0 q1 q2 q3 q4 q5 z0 z1 z2 z3 z4 z5 hTD hTF HM5 HYB5 hW6
            obtain ⟨q0, q1, q2, q3, q4, q5, -⟩ := box6 hYb6
            obtain ⟨z0, z1, z2, z3, z4, z5, -⟩ := box6 hm6.box
            rw [hbk] at z2
            have hN6 := lt_of_heap hm6.box
            have HM6 := hide hm6
            clear hm6 hYb6
            go_wp2_with (first | (at_builtin; refine app_ev rfl (.tmp 117) (.tmp 126) rfl N _ E (own_fr (S := No) (unhide HM6).evs ((Fr.refl No _).alloc _) (fun _ _ => id)) rfl ⟨W6.heap.size, 0, none⟩ 1 1 [tradedE x.id L[i].id L[i].price n] rfl rfl (by simp) (new_cells W6 (tradedE x.id L[i].id L[i].price n).cells _) (by simp; split at hEl <;> omega) (by simp; omega) ?_; intro g9 c9 w9 hown9 hfr9 hat9 hlt9; have hm9 := (unhide HM6).more ((Fr.refl No _).alloc _) hfr9 hown9 (hat9.imp id (fun h => by have : g9 = W6.heap.size + 1 := (by simpa using h); omega)) (unhide HN) hbp; obtain ⟨k0, k1, k2, k3, k4, k5, hkf⟩ := box6 hm9.box; rw [hbk] at k2; have hN9 := lt_of_heap hm9.box; have HM9 := hide hm9; clear hm9 hown9 hfr9 hat9 z0 z1 z2 z3 z4 z5 q0 q1 q2 q3 q4 q5) | (go_at_call 114; refine (crosses_any bp v5 _ ⟨x.id, x.trader, nb, x.side, x.price, o - n⟩ _ ((unhide HM9).ref.no (by repeat (first | exact Fr.refl _ _ | refine Fr.drewN ?_ _ | refine Fr.drew ?_))) (by show L5.length ≤ 100000; rw [unhide HL5]; split <;> simp [List.length_eraseIdx] <;> (try split) <;> omega) (by show (1 : Int) ≤ x.side; omega) (by show x.side ≤ (2 : Int); omega)).mono ?_; rintro e w10 ⟨rfl, hf10⟩; rw [show crossB L5 ⟨x.id, x.trader, nb, x.side, x.price, o - n⟩ = crossB L5 x from (by rw [← hbk]; rfl)]; have hm10 := (unhide HM9).no (Fr.quiet (by repeat (first | exact Fr.refl _ _ | refine Fr.drewN ?_ _ | refine Fr.drew ?_)) hf10); clear hf10))
            obtain ⟨hmw, hop, hb, -⟩ := unhide HST
            rw [if_pos hop0] at hfl hEl
            have hgk : gk - 1 + 1 = gk := by omega
            have hl5 := unhide HL5
            have hfu := unhide HFU
            have hlen : L5.length + 1 = L.length ∨ (L5.length = L.length ∧ o - n = 0) := by
              by_cases he : L[i].opn = n
              · rw [hl5, if_pos he, List.length_eraseIdx, if_pos hi]; left; omega
              · rw [hl5, if_neg he, List.length_set]; right; omega
            have hmem : ∀ y ∈ L5, 1 ≤ y.opn ∧ y.opn ≤ 1000000 := by
              by_cases he : L[i].opn = n
              · rw [hl5, if_pos he]; exact fun y hy => hop y (List.mem_of_mem_eraseIdx hy)
              · rw [hl5, if_neg he]
                intro y hy
                rcases List.mem_or_eq_of_mem_set hy with h1 | h1
                · exact hop y h1
                · rw [h1]; show 1 ≤ L[i].opn - n ∧ L[i].opn - n ≤ 1000000; omega
            go_roundg (gk - 1)
            case rel => exact ⟨L5, t + n, o - n, E ++ [tradedE x.id L[i].id L[i].price n], v5, rfl, hm10, by rw [← hmw, ← hgk, mWhile_meet hcr hop0 hb hi ht, hgk, hn, ← hl5], by split <;> omega, by rw [List.length_append, List.length_singleton]; split <;> omega, by omega, hmem, ⟨by omega, by omega⟩⟩
            case measure => omega
    · have hRE : R = (L, t, o, E) := by rw [← hmw, mWhile_stop hgo]
      by_cases hoz : o = 0
      · have HE : Hid (takesT s nb x kind R = ({ s with L := L, td := setTd s.td nb tw }, E)) := by show _ = _; rw [hRE, ← unhide HTW]; simp [takesT, hoz]
        have HMM := hide hm
        subst hoz
        clear hm hmw hfl hEl hop hgo hRE hyf
        cases hcb : crossB L x
        all_goals
          clear hcb
          go_wp2
          go_ret
          rw [unhide HE]
          exact ⟨_, v', rfl, (unhide HMM).out (unhide HN)⟩
      · have hcb : crossB L x = false := by
          cases hcb : crossB L x with
          | false => rfl
          | true => exact absurd ⟨hcb, by omega⟩ hgo
        have hob : (o == 0) = false := by simpa using hoz
        rw [hcb]
        by_cases hk : kind = 1 ∨ kind = 5
        · have HE : Hid (takesT s nb x kind R = ({ s with L := L ++ [{ x with opn := o }], td := setTd s.td nb tw }, E ++ [restsE x.id x.price o])) := by show _ = _; rw [hRE, ← unhide HTW]; simp [takesT, hoz, hk]
          have hL := hm.ref.cellL
          have hfz := hm.ref.frozen 0
          obtain ⟨a, cap, rfl⟩ := hm.ref.form
          have HMM := hide hm
          clear hm hmw hop hgo hRE hyf hcb
          have hbr : bp < wr.heap.size := by omega
          have hvN : ∀ q, OwnS v q → q < N := fun q hq => by have := ((unhide HR).own.lt q hq).2; have := unhide HN; omega
          have HVN := hide hvN
          have HVB := hide (show ∀ q, OwnS (.slice a L.length cap) q → q ≠ bp from fun q hq e => (unhide HMM).ref.apart (e ▸ hq))
          clear hvN
          rcases hk with rfl | rfl
          all_goals
            go_wp2_with fail
            go_region_law (refine step_ord rfl (.tmp 145) (.tmp 147) rfl 0 _ L (own_fr (S := No) (unhide HMM).ref.own (((Fr.refl _ _).drew).alloc _) (fun _ _ => id)) (by simp [Act.eval]) ⟨wr.heap.size, 0, none⟩ 1 1 [⟨x.id, x.trader, nb, x.side, x.price, o⟩] (by simp [Act.eval]) rfl (by simp) (new_cells wr.drew (Ord.cells ⟨x.id, x.trader, nb, x.side, x.price, o⟩) _) (by simp; omega) (Nat.zero_le _) ?_; intro g1 c1 w1 hown1 hfr1 hat1 hlt1; have hf1w : Fr (OwnS (.slice a L.length cap)) wr w1 := Fr.same (by repeat (first | exact Fr.refl _ _ | refine Fr.drew ?_ | refine Fr.alloc ?_ _)) hfr1; have hb1 := hf1w.heap (unhide HMM).ref.blk (fun e => unhide HVB bp e rfl); have hf1 := frozen_heap hb1 0; have hl1 : w1.cell? ⟨bp, 0, none⟩ = some (.slice a L.length cap) := cell_heap hb1 0; have HH := hide (And.intro hown1 (And.intro hf1w hat1)); clear hown1 hf1w hat1 hb1 hfr1)
            all_goals
              have hM2 : MMid w (w1.setCell ⟨bp, 0, none⟩ (.slice (some ⟨g1, 0, none⟩) (L.length + 1) c1)) bp N nb v (.slice (some ⟨g1, 0, none⟩) (L.length + 1) c1) u7 s x (L ++ [⟨x.id, x.trader, nb, x.side, x.price, o⟩]) tw o E :=
                (unhide HMM).rest (Fr.refl _ _) (unhide HH).2.1 (unhide HH).1 ((unhide HH).2.2.imp id (fun h => by have : g1 = wr.heap.size + 1 := (by simpa using h); omega)) hbp (unhide HN) (unhide HVN)
              generalize hW2 : World.setCell w1 _ _ = W2 at hM2 ⊢
              obtain ⟨q0, q1, q2, q3, q4, q5, _⟩ := box6 hM2.box
              rw [hbk] at q2
              have hN2 := lt_of_heap hM2.box
              have HM2 := hide hM2
              clear hM2 hW2 HH y0 y1 y2 y3 y4 y5
              go_wp2_with (at_builtin; refine app_ev rfl (.tmp 151) (.tmp 159) rfl N _ E (own_fr (S := No) (unhide HM2).evs ((Fr.refl No _).alloc _) (fun _ _ => id)) rfl ⟨W2.heap.size, 0, none⟩ 1 1 [restsE x.id x.price o] rfl rfl (by simp) (new_cells W2 (restsE x.id x.price o).cells _) (by simp; split at hEl <;> omega) (by simp; omega) ?_; intro g9 c9 w9 hown9 hfr9 hat9 hlt9)
              go_ret
              rw [unhide HE]
              have hz := ((unhide HM2).more ((Fr.refl No _).alloc _) hfr9 hown9 (hat9.imp id (fun h => by have : g9 = W2.heap.size + 1 := (by simpa using h); omega)) (unhide HN) hbp).out (unhide HN)
              rw [← hbk] at hz
              exact ⟨_, _, rfl, hz⟩
        · have HE : Hid (takesT s nb x kind R = ({ s with L := L, td := setTd s.td nb tw }, E ++ [goneE x.id o])) := by show _ = _; rw [hRE, ← unhide HTW]; simp [takesT, hoz, hk]
          have hk1 : (kind == 1) = false := by simp; omega
          have hk5 : (kind == 5) = false := by simp; omega
          have HMM := hide hm
          clear hm hmw hfl hop hgo hRE hyf hk hcb
          go_wp2_with fail
          refine (gone_any x.id o wr).mono ?_
          rintro e w2 ⟨rfl, hf2⟩
          have HF2 := hide hf2
          have hs2 := hf2.size
          clear hf2
          rw [show (goneE x.id o).val = .agg #[.int .i64 5, .int .i64 x.id, .int .i64 0, .int .i64 0, .int .i64 o, .int .i64 0] from rfl]
          go_wp2_with (at_builtin; refine app_ev rfl (.tmp 161) (.tmp 167) rfl N _ E (own_fr (S := No) (unhide HMM).evs ((unhide HF2).alloc _) (fun _ _ => id)) rfl ⟨w2.heap.size, 0, none⟩ 1 1 [goneE x.id o] rfl rfl (by simp) (new_cells w2 (goneE x.id o).cells _) (by simp; split at hEl <;> omega) (by simp; omega) ?_; intro g9 c9 w9 hown9 hfr9 hat9 hlt9)
          go_ret
          rw [unhide HE]
          exact ⟨_, v', rfl, ((unhide HMM).more ((unhide HF2).alloc _) hfr9 hown9 (hat9.imp id (fun h => by have : g9 = w2.heap.size + 1 := (by simpa using h); omega)) (unhide HN) hbp).out (unhide HN)⟩
end Go.Proofs.YtigpgnjgmaoejaaGreat
