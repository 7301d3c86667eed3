/- The document's opens: an opening. Conditions: the pit is good. -/
import Derived.Test.YtigpgnjgmaoejaaGreatRefTU
namespace Go.Proofs.YtigpgnjgmaoejaaGreat
open Go.RowKit

theorem RefAt.setTr {w : World} {bp : Nat} {v : Value} {s : Ref} (h : RefAt w bp v s) (nb : Nat) (hb : nb < 9) (t : Bool) : RefAt (w.setCell ⟨bp, 1 + nb, none⟩ (.bool t)) bp v { s with tr := setTr s.tr nb t } := by
  refine ⟨?_, own_fr h.own ((Fr.refl (Is bp) _).setAt bp (.inr (Is.self bp)) _ _) (fun g hg e => h.apart (by rw [← show g = bp from e]; exact hg)), h.apart⟩
  rw [heap_set h.blk]
  match nb, hb with
  | 0, _ | 1, _ | 2, _ | 3, _ | 4, _ | 5, _ | 6, _ | 7, _ | 8, _ => rfl

/-- What holds of memory within a trade of an opening: the pit, the events, the boxes of both orders. -/
structure OB (w wr : World) (bp X Y : Nat) (v v' l : Value) (s : Ref) (E : List Ev) (x y : Ord) : Prop where
  out : RefOut w wr bp v v' s l E
  bx : wr.heap[X]? = some (.cells #[.int .i64 x.id, .int .i64 x.trader, .int .i64 x.book, .int .i64 x.side, .int .i64 x.price, .int .i64 x.opn] 95 (0, 0))
  bz : wr.heap[Y]? = some (.cells #[.int .i64 y.id, .int .i64 y.trader, .int .i64 y.book, .int .i64 y.side, .int .i64 y.price, .int .i64 y.opn] 95 (0, 0))
  lx : w.heap.size ≤ X
  ly : w.heap.size ≤ Y
  vx : ¬ OwnS v' X
  vy : ¬ OwnS v' Y
  ex : ¬ OwnS l X
  ey : ¬ OwnS l Y
  hbp : bp < w.heap.size

theorem OB.no {w wr wr' : World} {bp X Y : Nat} {v v' l : Value} {s : Ref} {E : List Ev} {x y : Ord} (h : OB w wr bp X Y v v' l s E x y) (hf : Fr No wr wr') : OB w wr' bp X Y v v' l s E x y :=
  ⟨RefOut.more h.out hf, hf.heap h.bx id, hf.heap h.bz id, h.lx, h.ly, h.vx, h.vy, h.ex, h.ey, h.hbp⟩
theorem OB.fr {w wr wr' : World} {bp X Y : Nat} {v v' l : Value} {s s2 : Ref} {E : List Ev} {x y : Ord} (h : OB w wr bp X Y v v' l s E x y) (hf : Fr (Is bp) wr wr') (hr : RefAt wr' bp v' s2) : OB w wr' bp X Y v v' l s2 E x y := by
  have hb := h.hbp
  have h1 := h.lx
  have h2 := h.ly
  exact ⟨⟨hr, h.out.fr.same (hf.mono fun _ _ e => .inl e), h.out.new, own_fr h.out.evs hf (fun g hg e => by have := (h.out.evs.lt g hg).1; have : g = bp := e; omega), h.out.apart⟩, hf.heap h.bx (fun e => by have : X = bp := e; omega), hf.heap h.bz (fun e => by have : Y = bp := e; omega), h.lx, h.ly, h.vx, h.vy, h.ex, h.ey, h.hbp⟩
theorem OB.drop {w wr wr' : World} {bp X Y : Nat} {v v' v3 l : Value} {s s2 : Ref} {E : List Ev} {x y : Ord} (h : OB w wr bp X Y v v' l s E x y) (hf : Fr (Is bp) wr wr') (hr : RefAt wr' bp v3 s2) (hv : ∀ g, v3.ownBlock = some g → wr.heap.size ≤ g) : OB w wr' bp X Y v v3 l s2 E x y := by
  have hb := h.hbp
  have h1 := h.lx
  have h2 := h.ly
  have hX := lt_of_heap h.bx
  have hY := lt_of_heap h.bz
  have hs := h.out.fr.size
  refine ⟨⟨hr, h.out.fr.same (hf.mono fun _ _ e => .inl e), fun g hg => .inr (by have := hv g hg; omega), own_fr h.out.evs hf (fun g hg e => by have := (h.out.evs.lt g hg).1; have : g = bp := e; omega), fun g hg e => by have := hv g e; have := (h.out.evs.lt g hg).2; omega⟩, hf.heap h.bx (fun e => by have : X = bp := e; omega), hf.heap h.bz (fun e => by have : Y = bp := e; omega), h.lx, h.ly, fun e => by have := hv X e; omega, fun e => by have := hv Y e; omega, h.ex, h.ey, h.hbp⟩
theorem OB.setOpn {w wr : World} {bp X Y g n cap : Nat} {v l : Value} {s : Ref} {E : List Ev} {x y : Ord} (h : OB w wr bp X Y v (.slice (some ⟨g, 0, none⟩) n cap) l s E x y) (i : Nat) (hi : i < s.L.length) (c : Int) :
    OB w (wr.setCell ⟨g, i * 6 + 5, none⟩ (.int .i64 c)) bp X Y v (.slice (some ⟨g, 0, none⟩) n cap) l { s with L := s.L.set i { s.L[i] with opn := c } } E x y := by
  have hg : OwnS (.slice (some ⟨g, 0, none⟩) n cap) g := rfl
  have hf : Fr (Is g) wr (wr.setCell ⟨g, i * 6 + 5, none⟩ (.int .i64 c)) := (Fr.refl _ _).setAt g (.inr (Is.self g)) _ _
  refine ⟨⟨h.out.ref.setOpn i hi c, h.out.fr.trans hf (fun q hq e => ?_), h.out.new, own_fr h.out.evs hf (fun q hq e => ?_), h.out.apart⟩, hf.heap h.bx (fun e => h.vx (by rw [show X = g from e]; exact hg)), hf.heap h.bz (fun e => h.vy (by rw [show Y = g from e]; exact hg)), h.lx, h.ly, h.vx, h.vy, h.ex, h.ey, h.hbp⟩
  · have e : q = g := e
    subst e
    rcases h.out.new q hg with h1 | h1
    · exact .inr h1
    · omega
  · have e : q = g := e
    subst e
    exact h.out.apart q hq hg
theorem OB.more {w wr wa wr' : World} {bp X Y g n c : Nat} {v v' l : Value} {s : Ref} {E E' : List Ev} {x y : Ord} (h : OB w wr bp X Y v v' l s E x y) (ha : Fr No wr wa) (hf : Fr (OwnS l) wa wr') (he : Es wr' w.heap.size (.slice (some ⟨g, 0, none⟩) n c) E') (hat : OwnS l g ∨ wr.heap.size ≤ g) :
    OB w wr' bp X Y v v' (.slice (some ⟨g, 0, none⟩) n c) s E' x y := by
  have hX := lt_of_heap h.bx
  have hY := lt_of_heap h.bz
  have hb := h.hbp
  have hl := h.out.evs.lt
  have hv := h.out.ref.own.lt
  have hlb : ∀ q, OwnS l q → q ≠ bp := fun q hq e => by have := (hl q hq).1; omega
  have hne : ∀ q, (OwnS l q → False) → q < wr.heap.size → ¬ OwnS (.slice (some ⟨g, 0, none⟩) n c) q := fun q h1 h2 e => by
    have e1 := own_eq e
    subst e1
    exact hat.elim h1 (fun h => by omega)
  refine ⟨⟨(h.out.ref.no ha).fr hf (fun e => hlb bp e rfl) (fun q hq e => h.out.apart q e hq), (h.out.fr.quiet ha).trans hf (fun q hq e => by have := (hl q e).1; omega), h.out.new, he, fun q hq e => ?_⟩, hf.heap (ha.heap h.bx id) h.ex, hf.heap (ha.heap h.bz id) h.ey, h.lx, h.ly, h.vx, h.vy, hne X h.ex hX, hne Y h.ey hY, h.hbp⟩
  exact hne q (fun e2 => h.out.apart q e2 e) (hv q e).2 hq
/-- The boxes are made. -/
theorem OB.mk' {w wr W : World} {bp X Y : Nat} {v v' l : Value} {s : Ref} {E : List Ev} {x y : Ord} (h : RefOut w wr bp v v' s l E) (hf : Fr No wr W) (hX : wr.heap.size ≤ X) (hY : wr.heap.size ≤ Y) (hb : bp < w.heap.size)
    (bx : W.heap[X]? = some (.cells #[.int .i64 x.id, .int .i64 x.trader, .int .i64 x.book, .int .i64 x.side, .int .i64 x.price, .int .i64 x.opn] 95 (0, 0)))
    (bz : W.heap[Y]? = some (.cells #[.int .i64 y.id, .int .i64 y.trader, .int .i64 y.book, .int .i64 y.side, .int .i64 y.price, .int .i64 y.opn] 95 (0, 0))) : OB w W bp X Y v v' l s E x y := by
  have hs := h.fr.size
  exact ⟨RefOut.more h hf, bx, bz, by omega, by omega, fun e => by have := (h.ref.own.lt X e).2; omega, fun e => by have := (h.ref.own.lt Y e).2; omega, fun e => by have := (h.evs.lt X e).2; omega, fun e => by have := (h.evs.lt Y e).2; omega, hb⟩

theorem setTd_setTd (td : Nat → Int) (nb : Nat) (a b : Int) : setTd (setTd td nb a) nb b = setTd td nb b := by funext k; unfold setTd; split <;> rfl
theorem oSet_set {L : List Ord} {i j : Nat} (hi : i < L.length) (hj : j < L.length) (hne : i ≠ j) (n : Int) (hj2 : j < (L.set i { L[i] with opn := L[i].opn - n }).length) (hn : leastI L[i].opn L[j].opn = n) :
    (L.set i { L[i] with opn := L[i].opn - n }).set j { (L.set i { L[i] with opn := L[i].opn - n })[j] with opn := L[j].opn - n } = oSet L i j L[i] L[j] := by
  unfold oSet
  rw [List.getElem_set_ne hne, hn]

/-- What an opening leaves: the list as it is now, the number that was traded, the book trades. -/
def OEnd (s : Ref) (nb : Nat) (R : List Ord × Int × List Ev) (P V : Int) : Ref × List Ev := (⟨R.1, setTr s.tr nb true, setTd s.td nb (wrp R.2.1)⟩, R.2.2 ++ [openedE P V])

set_option maxHeartbeats 8000000 in
set_option maxRecDepth 100000 in
theorem opens_any (bp : Nat) (v : Value) (s : Ref) (w : World) (hr : RefAt w bp v s) (hg : Good s) (nb : Nat) (hb1 : 1 ≤ nb) (hb8 : nb ≤ 8) (hinv : OInv nb s.L (priceO s.L nb).vol) (hvb : (priceO s.L nb).vol ≤ 10000000000) :
    Calls Tryz.prog 62 #[.pointer (some ⟨bp, 0, none⟩), .int .i64 nb] w (TPost w bp v (tOpenAt s nb)) := by
  have hlen := hg.len
  have hbp := hr.lt
  have HR := hide hr
  have HG := hide hg
  have hcz : (0 : Int) ≤ (nb : Int) := by omega
  have hc9 : (nb : Int) < 9 := by omega
  have HPR := hide (price_any bp v s nb w hr (by omega) (fun y hy => ⟨(hg.ord y hy).2.2.1, (hg.ord y hy).2.2.2.1⟩))
  have HTO : Hid (tOpenAt s nb = OEnd s nb (oRun s nb) (priceO s.L nb).price (priceO s.L nb).vol) := rfl
  have hRR : oWhile nb (priceO s.L nb).price (s.L.length + 1) s.L (s.td nb) (priceO s.L nb).vol [] = oRun s nb := rfl
  generalize oRun s nb = R at *
  generalize (priceO s.L nb).price = P at *
  generalize (priceO s.L nb).vol = V at *
  have HIV := hide hinv
  have HRR := hide hRR
  clear hr hg hinv hRR
  go_enter Tryz.func62, Tryz.ntmps62
  go_wp2_with fail
  refine (unhide HPR).mono ?_
  rintro e w1 ⟨rfl, hf1⟩
  have HF1 := hide hf1
  clear hf1
  go_wp2
  go_loopg [5, 8] (s.L.length + 1) (fun f l lf wr => ∃ L t vl E v', lf = .int .i64 vl ∧ RefOut w wr bp v v' { s with L := L, td := setTd s.td nb (wrp t) } l E ∧ oWhile nb P f L t vl E = R ∧ OInv nb L vl ∧ L.length < f ∧ E.length + L.length ≤ 20000 ∧ vl ≤ 10000000000)
  case atStart => exact ⟨s.L, s.td nb, V, [], v, rfl, by rw [(unhide HG).td nb, setTd_self]; exact RefOut.said (unhide HR) (World.ownsRow_nil _ _ _ _) (unhide HF1), unhide HRR, unhide HIV, by omega, by simp; omega, hvb⟩
  case round =>
    obtain ⟨L, t, vl, E, v', rfl, ho, how, hiv, hfl, hEl, hvl⟩ := hrel
    have hlf := hiv.left
    generalize htw : wrp t = tw at ho
    have HTW := hide htw
    clear htw
    by_cases h0 : 0 < vl
    · have hob : decide (vl > 0) = true := by simpa using h0
      obtain ⟨i, j, hi, hj, st⟩ := oinv_step hiv h0
      have HST := hide st
      have HO := hide ho
      have HOW := hide how
      have HIV2 := hide hiv
      have hsz := ho.fr.size
      clear st ho how hiv HIV HRR HPR HTO
      go_wp2_with fail
      refine (best_any bp v' _ nb 1 wr (unhide HO).ref (by show L.length ≤ 100000; omega)).mono ?_
      rintro e w2 ⟨rfl, hf2⟩
      rw [show ({ s with L := L, td := setTd s.td nb tw } : Ref).L = L from rfl, (unhide HST).bi, show enc (some i) = (i : Int) from rfl]
      have HO2 := hide (RefOut.more (unhide HO) hf2)
      clear hf2
      go_wp2_with fail
      refine (best_any bp v' _ nb 2 w2 (unhide HO2).ref (by show L.length ≤ 100000; omega)).mono ?_
      rintro e w3 ⟨rfl, hf3⟩
      rw [show ({ s with L := L, td := setTd s.td nb tw } : Ref).L = L from rfl, (unhide HST).bj, show enc (some j) = (j : Int) from rfl]
      have HO3 := hide (RefOut.more (unhide HO2) hf3)
      clear hf3
      obtain ⟨a, cap, hva⟩ := (unhide HO3).ref.form
      subst hva
      have hL := (unhide HO3).ref.cellL
      have hbp3 := (unhide HO3).ref.lt
      obtain ⟨g, rfl, hg, _, c0, c1, c2, c3, c4, c5, cz⟩ := os_at (unhide HO3).ref.own i hi
      obtain ⟨g', ge, hg', _, d0, d1, d2, d3, d4, d5, dz⟩ := os_at (unhide HO3).ref.own j hj
      obtain rfl : g = g' := by simpa using ge
      have hi0 : (0 : Int) ≤ (i : Int) := by omega
      have hin : (i : Int) < L.length := by omega
      have hj0 : (0 : Int) ≤ (j : Int) := by omega
      have hjn : (j : Int) < L.length := by omega
      go_wp2_with fail
      generalize hW : World.alloc (World.alloc w3 _) _ = W
      have hOB : OB w W bp w3.heap.size (w3.heap.size + 1) v (.slice (some ⟨g, 0, none⟩) L.length cap) u5 { s with L := L, td := setTd s.td nb tw } E L[i] L[j] := by
        refine OB.mk' (unhide HO3) (by rw [← hW]; exact ((Fr.refl _ _).alloc _).alloc _) (Nat.le_refl _) (by omega) hbp ?_ ?_
        · rw [← hW]; exact ((Fr.refl No _).alloc _).heap (heap_alloc_new w3 _) id
        · rw [← hW]; exact heap_newAt _ _ (by simp)
      have hpos := (unhide HST).pos
      have hlei := (unhide HST).lei
      have hlej := (unhide HST).lej
      have hlev := (unhide HST).lev
      have oi := (unhide HIV2).opn _ (List.getElem_mem hi)
      have oj := (unhide HIV2).opn _ (List.getElem_mem hj)
      refine (least_any _ _ _).mono ?_
      rintro e w4 ⟨rfl, hw4⟩
      have hw5 := hw4.symm
      subst hw5
      generalize hn : leastI L[i].opn L[j].opn = n at *
      have HN := hide hn
      generalize hXX : w3.heap.size = X at *
      generalize hYY : X + 1 = Y at *
      have hX := lt_of_heap hOB.bx
      have hY := lt_of_heap hOB.bz
      obtain ⟨x0, x1, x2, x3, x4, x5, _⟩ := box6 hOB.bx
      obtain ⟨y0, y1, y2, y3, y4, y5, _⟩ := box6 hOB.bz
      have HOB := hide hOB
      clear hW hOB c0 c1 c2 c3 c4 c5 cz d0 d1 d2 d3 d4 d5 dz hL hw4 hn HO HO2 HO3
      go_wp2_with (at_builtin; refine app_ev rfl (.tmp 48) (.tmp 56) rfl w.heap.size _ E (own_fr (S := No) (unhide HOB).out.evs ((Fr.refl No _).alloc _) (fun _ _ => id)) rfl ⟨W.heap.size, 0, none⟩ 1 1 [tradedE L[i].id L[j].id P n] rfl rfl (by simp) (new_cells W (tradedE L[i].id L[j].id P n).cells _) (by simp; omega) (by have := (unhide HOB).out.fr.size; simp; omega) ?_; intro g9 c9 w9 hown9 hfr9 hat9 hlt9; have hm9 := (unhide HOB).more ((Fr.refl No _).alloc _) hfr9 hown9 (hat9.imp id (fun h => by have : g9 = W.heap.size + 1 := (by simpa using h); omega)); have HOB9 := hide hm9; clear hm9 hown9 hfr9 hat9 x0 x1 x2 x3 x4 x5 y0 y1 y2 y3 y4 y5)
      have hL9 := (unhide HOB9).out.ref.cellL
      have hb9 := (unhide HOB9).out.ref.lt
      obtain ⟨z0, z1, z2, z3, z4, z5, _⟩ := box6 (unhide HOB9).bx
      obtain ⟨q0, q1, q2, q3, q4, q5, _⟩ := box6 (unhide HOB9).bz
      have hX9 := lt_of_heap (unhide HOB9).bx
      have hY9 := lt_of_heap (unhide HOB9).bz
      obtain ⟨g1, ge1, hg1, -, -, -, -, -, -, e5, ez⟩ := os_at (unhide HOB9).out.ref.own i hi
      obtain rfl : g = g1 := by simpa using ge1
      have ez5 := ez (i * 6 + 5)
      have hgX : g ≠ X := fun e => (unhide HOB9).vx (by rw [← e]; rfl)
      have hgY : g ≠ Y := fun e => (unhide HOB9).vy (by rw [← e]; rfl)
      have hgb : g ≠ bp := fun e => (unhide HOB9).out.ref.apart (by rw [← e]; rfl)
      clear ez HOB
      go_region_held3 (fun w' : World => w'.cell? ⟨bp, 0, none⟩ = some (.slice (some ⟨g, 0, none⟩) L.length cap) ∧ w'.cell? ⟨X, 5, none⟩ = some (.int .i64 L[i].opn)) (go_keep) (fail)
      have hwr : IntKind.i64.wrap (L[i].opn - n) = L[i].opn - n := by rw [IntKind.wrap_i64]; omega
      rw [hwr]
      generalize hWA : World.drew (World.setCell w9 _ _) = WA
      have hOA : OB w WA bp X Y v (.slice (some ⟨g, 0, none⟩) L.length cap) (.slice (some ⟨g9, 0, none⟩) (E.length + 1) c9) { s with L := L.set i { L[i] with opn := L[i].opn - n }, td := setTd s.td nb tw } (E ++ [tradedE L[i].id L[j].id P n]) L[i] L[j] := by
        rw [← hWA]; exact ((unhide HOB9).setOpn i hi (L[i].opn - n)).no ((Fr.refl _ _).drew)
      have hj2 : j < (L.set i { L[i] with opn := L[i].opn - n }).length := by rw [List.length_set]; exact hj
      clear hWA hwr z0 z1 z2 z3 z4 z5 q0 q1 q2 q3 q4 q5 e5 ez5 hL9 hb9 hX9 hY9 hg1 HOB9
      have hLA := hOA.out.ref.cellL
      have hbA := hOA.out.ref.lt
      obtain ⟨z0, z1, z2, z3, z4, z5, _⟩ := box6 hOA.bx
      obtain ⟨q0, q1, q2, q3, q4, q5, _⟩ := box6 hOA.bz
      have hXA := lt_of_heap hOA.bx
      have hYA := lt_of_heap hOA.bz
      obtain ⟨g2, ge2, hg2, -, -, -, -, -, -, e5, ez⟩ := os_at hOA.out.ref.own j hj2
      obtain rfl : g = g2 := by simpa using ge2
      have ez5 := ez (j * 6 + 5)
      have HOA := hide hOA
      clear ez hOA
      go_wp2_with fail
      go_region_held3 (fun w' : World => w'.cell? ⟨bp, 0, none⟩ = some (.slice (some ⟨g, 0, none⟩) L.length cap) ∧ w'.cell? ⟨Y, 5, none⟩ = some (.int .i64 L[j].opn)) (go_keep) (fail)
      have hwr : IntKind.i64.wrap (L[j].opn - n) = L[j].opn - n := by rw [IntKind.wrap_i64]; omega
      rw [hwr]
      generalize hWB : World.drew (World.setCell WA _ _) = WB
      have hOB2 : OB w WB bp X Y v (.slice (some ⟨g, 0, none⟩) L.length cap) (.slice (some ⟨g9, 0, none⟩) (E.length + 1) c9) { s with L := oSet L i j L[i] L[j], td := setTd s.td nb tw } (E ++ [tradedE L[i].id L[j].id P n]) L[i] L[j] := by
        rw [← hWB, ← oSet_set hi hj (unhide HST).ne n hj2 (unhide HN)]; exact ((unhide HOA).setOpn j hj2 (L[j].opn - n)).no ((Fr.refl _ _).drew)
      clear hWB hwr z0 z1 z2 z3 z4 z5 q0 q1 q2 q3 q4 q5 e5 ez5 hLA hbA hXA hYA hg2 HOA hj2
      have hLB := (oDropY_eq (unhide HIV2).ids hi hj (unhide HST).ne).2
      have hlB : (oSet L i j L[i] L[j]).length = L.length := by have := congrArg List.length hLB; simpa using this
      obtain ⟨q0, q1, q2, q3, q4, q5, _⟩ := box6 hOB2.bz
      have hYB := lt_of_heap hOB2.bz
      have HOB2 := hide hOB2
      clear hOB2 hLB
      by_cases hyn : L[j].opn = n
      · have hyb : (L[j].opn == n) = true := by simpa using hyn
        have HYN := hide hyn
        clear hyn
        go_wp2_with fail
        refine (drop_any bp _ _ j _ (unhide HOB2).out.ref (by show (oSet L i j L[i] L[j]).length ≤ 100000; omega)).mono ?_
        rintro e WC ⟨rfl, vC, hrC, hfC, hvC⟩
        have hOC := (unhide HOB2).drop hfC hrC hvC
        have HDY : Hid (oDropY L i j L[i] L[j] = (oSet L i j L[i] L[j]).eraseIdx j) := by show _ = _; unfold oDropY; rw [if_pos (by rw [unhide HN]; exact unhide HYN)]
        have hOC2 : OB w WC bp X Y v vC (.slice (some ⟨g9, 0, none⟩) (E.length + 1) c9) { s with L := oDropY L i j L[i] L[j], td := setTd s.td nb tw } (E ++ [tradedE L[i].id L[j].id P n]) L[i] L[j] := by rw [unhide HDY]; exact hOC
        have HOC := hide hOC2
        clear hrC hfC hvC hOC hOC2 HDY
        obtain ⟨z0, z1, z2, z3, z4, z5, _⟩ := box6 (unhide HOC).bx
        have hXC := lt_of_heap (unhide HOC).bx
        clear q0 q1 q2 q3 q4 q5
        by_cases hxn : L[i].opn = n
        · have hxb : (L[i].opn == n) = true := by simpa using hxn
          have HXN := hide hxn
          clear hxn
          obtain ⟨k, hfk⟩ := (unhide HST).fnd
          have hdl := (unhide HST).dlen
          go_wp2_with fail
          refine (find_any bp _ _ _ _ (unhide HOC).out.ref (by show (oDropY L i j L[i] L[j]).length ≤ 100000; omega)).mono ?_
          rintro e wf ⟨rfl, hwf⟩
          have hwf2 := hwf.symm
          subst hwf2
          rw [show ({ s with L := oDropY L i j L[i] L[j], td := setTd s.td nb tw } : Ref).L = oDropY L i j L[i] L[j] from rfl, hfk, show enc (some k) = (k : Int) from rfl]
          go_wp2_with fail
          refine (drop_any bp _ _ k _ (unhide HOC).out.ref (by show (oDropY L i j L[i] L[j]).length ≤ 100000; omega)).mono ?_
          rintro e WD ⟨rfl, vD, hrD, hfD, hvD⟩
          have hOD := (unhide HOC).drop hfD hrD hvD
          have HCU : Hid (oCut L i j L[i] L[j] = (oDropY L i j L[i] L[j]).eraseIdx k) := by show _ = _; unfold oCut dropId; rw [if_pos (by rw [unhide HN]; exact unhide HXN), hfk]
          have hOD2 : OB w WD bp X Y v vD (.slice (some ⟨g9, 0, none⟩) (E.length + 1) c9) { s with L := oCut L i j L[i] L[j], td := setTd s.td nb tw } (E ++ [tradedE L[i].id L[j].id P n]) L[i] L[j] := by rw [unhide HCU]; exact hOD
          have HOD := hide hOD2
          clear hrD hfD hvD hOD hOD2 HCU hwf
          have hTD := (unhide HOD).out.ref.cellTd nb (by omega)
          rw [show ({ s with L := oCut L i j L[i] L[j], td := setTd s.td nb tw } : Ref).td nb = tw from by simp [setTd]] at hTD
          have hTF := (unhide HOD).out.ref.frozen (10 + nb)
          have hbD := (unhide HOD).out.ref.lt
          clear z0 z1 z2 z3 z4 z5
          go_wp2_with fail
          go_region_law (fail)
          all_goals
            have hwt : IntKind.i64.wrap (tw + n) = wrp (t + n) := wrp_plus (unhide HTW)
            rw [hwt]
            generalize hWE : World.drew (World.setCell WD _ _) = WE
            have hOE : RefOut w WE bp v vD { s with L := oCut L i j L[i] L[j], td := setTd s.td nb (wrp (t + n)) } (.slice (some ⟨g9, 0, none⟩) (E.length + 1) c9) (E ++ [tradedE L[i].id L[j].id P n]) := by
              rw [← hWE]
              have hz := ((unhide HOD).fr ((Fr.refl (Is bp) _).setAt bp (.inr (Is.self bp)) _ _) ((unhide HOD).out.ref.setTd nb (by omega) (wrp (t + n)))).out
              have hz2 := RefOut.more hz ((Fr.refl No _).drew)
              simp only [setTd_setTd] at hz2
              exact hz2
            clear hWE hwt hTD hTF
            go_wp2
            have hst := unhide HST
            have hle := hst.len
            have hgk : gk - 1 + 1 = gk := by omega
            have hs1 := hst.inv
            rw [unhide HN] at hs1
            go_roundg (gk - 1)
            case rel => exact ⟨oCut L i j L[i] L[j], t + n, vl - n, E ++ [tradedE L[i].id L[j].id P n], vD, rfl, hOE, by rw [← unhide HOW, ← hgk, oWhile_step h0 hi hj hst.bi hst.bj, hgk, unhide HN], hs1, by omega, by rw [List.length_append, List.length_singleton]; omega, by omega⟩
            case measure => omega
        · have hxb : (L[i].opn == n) = false := by simpa using hxn
          have HXN := hide hxn
          clear hxn
          have HCU : Hid (oCut L i j L[i] L[j] = oDropY L i j L[i] L[j]) := by show _ = _; unfold oCut; rw [if_neg (by rw [unhide HN]; exact unhide HXN)]
          have hOD2 : OB w WC bp X Y v vC (.slice (some ⟨g9, 0, none⟩) (E.length + 1) c9) { s with L := oCut L i j L[i] L[j], td := setTd s.td nb tw } (E ++ [tradedE L[i].id L[j].id P n]) L[i] L[j] := by rw [unhide HCU]; exact unhide HOC
          have HOD := hide hOD2
          clear hOD2 HCU
          have hTD := (unhide HOD).out.ref.cellTd nb (by omega)
          rw [show ({ s with L := oCut L i j L[i] L[j], td := setTd s.td nb tw } : Ref).td nb = tw from by simp [setTd]] at hTD
          have hTF := (unhide HOD).out.ref.frozen (10 + nb)
          have hbD := (unhide HOD).out.ref.lt
          go_wp2_with fail
          go_region_law (fail)
          all_goals
            have hwt : IntKind.i64.wrap (tw + n) = wrp (t + n) := wrp_plus (unhide HTW)
            rw [hwt]
            generalize hWE : World.drew (World.setCell WC _ _) = WE
            have hOE : RefOut w WE bp v vC { s with L := oCut L i j L[i] L[j], td := setTd s.td nb (wrp (t + n)) } (.slice (some ⟨g9, 0, none⟩) (E.length + 1) c9) (E ++ [tradedE L[i].id L[j].id P n]) := by
              rw [← hWE]
              have hz := ((unhide HOD).fr ((Fr.refl (Is bp) _).setAt bp (.inr (Is.self bp)) _ _) ((unhide HOD).out.ref.setTd nb (by omega) (wrp (t + n)))).out
              have hz2 := RefOut.more hz ((Fr.refl No _).drew)
              simp only [setTd_setTd] at hz2
              exact hz2
            clear hWE hwt hTD hTF
            go_wp2
            have hst := unhide HST
            have hle := hst.len
            have hgk : gk - 1 + 1 = gk := by omega
            have hs1 := hst.inv
            rw [unhide HN] at hs1
            go_roundg (gk - 1)
            case rel => exact ⟨oCut L i j L[i] L[j], t + n, vl - n, E ++ [tradedE L[i].id L[j].id P n], vC, rfl, hOE, by rw [← unhide HOW, ← hgk, oWhile_step h0 hi hj hst.bi hst.bj, hgk, unhide HN], hs1, by omega, by rw [List.length_append, List.length_singleton]; omega, by omega⟩
            case measure => omega
      · have hyb : (L[j].opn == n) = false := by simpa using hyn
        have hxn : L[i].opn = n := by have := (unhide HST).one; have e := unhide HN; rw [e] at this; exact this.resolve_right hyn
        have HYN := hide hyn
        clear hyn
        have HDY : Hid (oDropY L i j L[i] L[j] = oSet L i j L[i] L[j]) := by show _ = _; unfold oDropY; rw [if_neg (by rw [unhide HN]; exact unhide HYN)]
        have hOC2 : OB w WB bp X Y v (.slice (some ⟨g, 0, none⟩) L.length cap) (.slice (some ⟨g9, 0, none⟩) (E.length + 1) c9) { s with L := oDropY L i j L[i] L[j], td := setTd s.td nb tw } (E ++ [tradedE L[i].id L[j].id P n]) L[i] L[j] := by rw [unhide HDY]; exact unhide HOB2
        generalize Value.slice (some ⟨g, 0, none⟩) L.length cap = vC at hOC2
        obtain ⟨WC, hWC⟩ : ∃ W, W = WB := ⟨WB, rfl⟩
        subst hWC
        have HOC := hide hOC2
        obtain ⟨z0, z1, z2, z3, z4, z5, _⟩ := box6 (unhide HOC).bx
        have hXC := lt_of_heap (unhide HOC).bx
        clear hOC2 HDY
        have hxb : (L[i].opn == n) = true := by simpa using hxn
        have HXN := hide hxn
        clear hxn
        obtain ⟨k, hfk⟩ := (unhide HST).fnd
        have hdl := (unhide HST).dlen
        go_wp2_with fail
        refine (find_any bp _ _ _ _ (unhide HOC).out.ref (by show (oDropY L i j L[i] L[j]).length ≤ 100000; omega)).mono ?_
        rintro e wf ⟨rfl, hwf⟩
        have hwf2 := hwf.symm
        subst hwf2
        rw [show ({ s with L := oDropY L i j L[i] L[j], td := setTd s.td nb tw } : Ref).L = oDropY L i j L[i] L[j] from rfl, hfk, show enc (some k) = (k : Int) from rfl]
        go_wp2_with fail
        refine (drop_any bp _ _ k _ (unhide HOC).out.ref (by show (oDropY L i j L[i] L[j]).length ≤ 100000; omega)).mono ?_
        rintro e WD ⟨rfl, vD, hrD, hfD, hvD⟩
        have hOD := (unhide HOC).drop hfD hrD hvD
        have HCU : Hid (oCut L i j L[i] L[j] = (oDropY L i j L[i] L[j]).eraseIdx k) := by show _ = _; unfold oCut dropId; rw [if_pos (by rw [unhide HN]; exact unhide HXN), hfk]
        have hOD2 : OB w WD bp X Y v vD (.slice (some ⟨g9, 0, none⟩) (E.length + 1) c9) { s with L := oCut L i j L[i] L[j], td := setTd s.td nb tw } (E ++ [tradedE L[i].id L[j].id P n]) L[i] L[j] := by rw [unhide HCU]; exact hOD
        have HOD := hide hOD2
        clear hrD hfD hvD hOD hOD2 HCU hwf
        have hTD := (unhide HOD).out.ref.cellTd nb (by omega)
        rw [show ({ s with L := oCut L i j L[i] L[j], td := setTd s.td nb tw } : Ref).td nb = tw from by simp [setTd]] at hTD
        have hTF := (unhide HOD).out.ref.frozen (10 + nb)
        have hbD := (unhide HOD).out.ref.lt
        clear z0 z1 z2 z3 z4 z5
        go_wp2_with fail
        go_region_law (fail)
        all_goals
          have hwt : IntKind.i64.wrap (tw + n) = wrp (t + n) := wrp_plus (unhide HTW)
          rw [hwt]
          generalize hWE : World.drew (World.setCell WD _ _) = WE
          have hOE : RefOut w WE bp v vD { s with L := oCut L i j L[i] L[j], td := setTd s.td nb (wrp (t + n)) } (.slice (some ⟨g9, 0, none⟩) (E.length + 1) c9) (E ++ [tradedE L[i].id L[j].id P n]) := by
            rw [← hWE]
            have hz := ((unhide HOD).fr ((Fr.refl (Is bp) _).setAt bp (.inr (Is.self bp)) _ _) ((unhide HOD).out.ref.setTd nb (by omega) (wrp (t + n)))).out
            have hz2 := RefOut.more hz ((Fr.refl No _).drew)
            simp only [setTd_setTd] at hz2
            exact hz2
          clear hWE hwt hTD hTF
          go_wp2
          have hst := unhide HST
          have hle := hst.len
          have hgk : gk - 1 + 1 = gk := by omega
          have hs1 := hst.inv
          rw [unhide HN] at hs1
          go_roundg (gk - 1)
          case rel => exact ⟨oCut L i j L[i] L[j], t + n, vl - n, E ++ [tradedE L[i].id L[j].id P n], vD, rfl, hOE, by rw [← unhide HOW, ← hgk, oWhile_step h0 hi hj hst.bi hst.bj, hgk, unhide HN], hs1, by omega, by rw [List.length_append, List.length_singleton]; omega, by omega⟩
          case measure => omega
    · have hv0 : vl = 0 := by omega
      subst hv0
      have HE : Hid (OEnd s nb R P V = (⟨L, setTr s.tr nb true, setTd s.td nb tw⟩, E ++ [openedE P V])) := by
        show _ = _
        rw [← how, oWhile_stop (by omega), ← unhide HTW]
        rfl
      have hbr := ho.ref.lt
      have hfz := ho.ref.frozen (1 + nb)
      have hcT := ho.ref.cellTr nb (by omega)
      have hsz := ho.fr.size
      have HO := hide ho
      clear ho how hiv HIV HRR HPR h0
      go_upto_region 20 with fail
      generalize hWT : World.setCell wr _ _ = WT
      have hOT : RefOut w WT bp v v' ⟨L, setTr s.tr nb true, setTd s.td nb tw⟩ u5 E := by
        have ho := unhide HO
        have hf : Fr (Is bp) wr WT := by rw [← hWT]; exact (Fr.refl (Is bp) _).setAt bp (.inr (Is.self bp)) _ _
        have hrT := ho.ref.setTr nb (by omega) true
        exact ⟨by rw [← hWT]; exact hrT, ho.fr.same (hf.mono fun _ _ e => .inl e), ho.new, own_fr ho.evs hf (fun g hg e => by have := (ho.evs.lt g hg).1; have : g = bp := e; omega), ho.apart⟩
      have hszT := hOT.fr.size
      have HOT := hide hOT
      clear hOT hWT hcT hfz
      go_wp2_with (at_builtin; refine app_ev rfl (.tmp 118) (.tmp 122) rfl w.heap.size _ E (own_fr (S := No) (unhide HOT).evs ((Fr.refl No _).alloc _) (fun _ _ => id)) rfl ⟨WT.heap.size, 0, none⟩ 1 1 [openedE P V] rfl rfl (by simp) (new_cells WT (openedE P V).cells _) (by simp; omega) (by simp; omega) ?_; intro g9 c9 w9 hown9 hfr9 hat9 hlt9; have HW9 := hide (And.intro hown9 (And.intro hfr9 hat9)); clear hown9 hfr9 hat9)
      go_ret
      obtain ⟨hown9, hfr9, hat9⟩ := unhide HW9
      have hOT := unhide HOT
      have hl := hOT.evs.lt
      have hv := hOT.ref.own.lt
      have hfa : Fr (OwnS u5) WT w9 := Fr.same ((Fr.refl _ _).alloc _) hfr9
      refine ⟨_, v', rfl, ?_⟩
      rw [unhide HTO, unhide HE]
      refine ⟨hOT.ref.fr hfa (fun e => by have := (hl bp e).1; omega) (fun q hq e => hOT.apart q e hq), hOT.fr.trans hfa (fun q hq e => by have := (hl q e).1; omega), hOT.new, hown9, fun q hq e => ?_⟩
      have e1 := own_eq hq
      subst e1
      rcases hat9 with h1 | h1
      · exact hOT.apart _ h1 e
      · have := (hv _ e).2
        simp at h1
        omega
end Go.Proofs.YtigpgnjgmaoejaaGreat
