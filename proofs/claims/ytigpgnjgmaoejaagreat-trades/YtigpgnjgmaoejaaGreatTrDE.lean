/- append of a list of events that may be empty; contracts of a book's mismatched and Bars. Conditions: the book lies in memory, what is open of each order is from 1 to 1000000. -/
import Derived.Test.YtigpgnjgmaoejaaGreatTrC
namespace Go.Proofs.YtigpgnjgmaoejaaGreat
open Go.RowKit

theorem run_app_none {P : Program} {w : World} {t ty e : TypeId} {i : TypeInfo} (ht : P.underlying t = some (.slice e)) (hi : P.info? e = some i) (base : Option Addr) (n c : Nat) (hle : n ≤ c) (a : Option Addr) (c2 : Nat) (hc : a = none → c2 = 0) :
    (Builtin.append_ #[t, t] ty #[.slice base n c, .slice a 0 c2]).run P w = .ok (.slice base n c) w := by
  cases a with
  | none => cases base <;> simp [Builtin.append_, run_underlying ht, sizeOf, typeInfo, hi, hle, storeCells, Builtin.lenOf, Builtin.firstCells]
  | some ad => cases base <;> simp [Builtin.append_, run_underlying ht, sizeOf, typeInfo, hi, hle, storeCells, Builtin.lenOf, Builtin.firstCells, loadCells, loadCellsFrom]

theorem app_none {ops : Array Oper} {rest : List Oper} {o : Oper} {a : Act} {Q : Exit → Act → World → Prop} {w : World} {t e : TypeId} {z : Value} {sz by_ : Nat} (info : (Tryz.prog.info? e).map (fun i => (i.zero, i.size, i.bytes)) = some (some z, sz, by_)) (und : Tryz.prog.underlying t = some (.slice e))
    (hgd : o.guard = none) (s x : Operand) (ho : o.op = .call { callee := .builtin .append, args := #[s, x], argTypes := #[t, t] }) (base : Option Addr) (n c : Nat) (hle : n ≤ c) (hs : a.eval s = .slice base n c) (b : Option Addr) (c2 : Nat) (hc : b = none → c2 = 0) (hx : a.eval x = .slice b 0 c2)
    (h : wpList Tryz.prog ops Q rest (a.put o.dst (.slice base n c)) w) : wpList Tryz.prog ops Q (o :: rest) a w := by
  obtain ⟨i0, hi, -⟩ := info_parts info
  refine wpList_plain hgd fun _ hK => ?_
  have hr := run_app_none (P := Tryz.prog) (w := w) (ty := o.type) und hi base n c hle b c2 hc
  unfold Oper.wp execOp
  simp only [ho, resolve, invoke, builtin, Sem.run_bind, Sem.run_pure, Result.andThen_ok, List.map_toArray, List.map_cons, List.map_nil, hs, hx, hr]
  exact hK _ _ h

theorem app_evs {ops : Array Oper} {rest : List Oper} {o : Oper} {a : Act} {Q : Exit → Act → World → Prop} {w : World} (hgd : o.guard = none) (s x : Operand) (ho : o.op = .call { callee := .builtin .append, args := #[s, x], argTypes := #[38, 38] })
    (base : Nat) (v : Value) (L : List Ev) (hown : Es w base v L) (hL : 0 < L.length) (hs : a.eval s = v) (vx : Value) (b2 : Nat) (N : List Ev) (hown2 : Es w b2 vx N) (hx : a.eval x = vx) (hb : L.length + N.length ≤ 1000000) (hbase : base ≤ w.heap.size)
    (h : ∀ g cap w', Es w' base (.slice (some ⟨g, 0, none⟩) (L.length + N.length) cap) (L ++ N) → Fr (OwnS v) w w' → (v.ownBlock = some g ∨ g = w.heap.size) → g < w'.heap.size → wpList Tryz.prog ops Q rest (a.put o.dst (.slice (some ⟨g, 0, none⟩) (L.length + N.length) cap)) w') : wpList Tryz.prog ops Q (o :: rest) a w := by
  obtain ⟨ax, cx, rfl, hcx, hnx, hax⟩ := own_form hown2
  obtain ⟨av, cv, rfl, hcv, hnv, hav⟩ := own_form hown
  cases av with
  | none => have := (hnv rfl).1; omega
  | some ad =>
    obtain ⟨g, rfl, hog, _, hgl⟩ := hav _ rfl
    cases N with
    | nil =>
      simp only [List.length_nil, Nat.add_zero, List.append_nil] at h
      exact app_none infoEv Tryz.underlying38 hgd s x ho _ _ _ hcv hs ax cx (fun e => (hnx e).2) hx (h g cv w hown (Fr.refl _ _) (.inl hog) hgl)
    | cons y N =>
      cases ax with
      | none => have := (hnx rfl).1; simp at this
      | some ad2 =>
        obtain ⟨g2, rfl, _, _, _⟩ := hax _ rfl
        exact app_ev hgd s x ho base _ L hown hs _ _ _ (y :: N) hx rfl (by simp) (own_news hown2) hb hbase h

set_option maxHeartbeats 2000000 in
theorem mism_any (b bx : Nat) (tr : Bool) (td : Int) (v : Nat → Value) (M : Nat → List Ord) (x : Ord) (kind : Int) (hs : x.side = 1 ∨ x.side = 2) (w : World) (h : PB w b bx tr td v M) (hop : ∀ j, j < 2 → ∀ y ∈ M j, 1 ≤ y.opn ∧ y.opn ≤ 1000000) :
    Calls Tryz.prog 129 #[.pointer (some ⟨b, 0, none⟩), x.val, .int .i64 kind] w fun e w' => e = .returned (.bool (mismB M x kind)) ∧ Fr No w w' := by
  obtain ⟨xid, xt, xb, xs, xp, xo⟩ := x
  simp only at hs
  have h3 : 3 - xs = 1 ∨ 3 - xs = 2 := by omega
  have HSD := hide (And.intro hs h3)
  have hbl := h.lt
  have HO : Hid (∀ (own : Int) (w' : World), Fr No w w' → Calls Tryz.prog 153 #[.pointer (some ⟨b, sAt (3 - xs), none⟩), .int .i64 xp, .int .i64 own] w' fun e w'' => e = .returned (.int .i64 (openAtO (3 - xs) xp own (M (fj xs)))) ∧ w'' = w') := fun own w' hf => by
    have hsi := (h.no hf).sideIn h3
    rw [fj_sj hs]
    exact openAt_any (3 - xs) h3 b (sAt (3 - xs)) _ _ xp own w' hsi.at_ ((cell_heap hsi.blk _).trans hsi.bts) (h.len _ (sj_lt _)) (fun y hy => by have := hop _ (sj_lt _) y hy; omega)
  have HM : Hid (mismB M ⟨xid, xt, xb, xs, xp, xo⟩ kind = if kind = 5 then decide (0 < openAtO (3 - xs) xp 0 (M (fj xs))) else if kind = 4 then decide (openAtO (3 - xs) xp xt (M (fj xs)) < xo) else false) := rfl
  generalize M (fj xs) = F at *
  generalize mismB M ⟨xid, xt, xb, xs, xp, xo⟩ kind = RR at *
  clear h hop hs h3
  unfold Ord.val
  simp only
  by_cases h5 : kind = 5
  · subst h5
    go_enter Tryz.func129, Tryz.ntmps129
    go_wp2_with (first
      | (go_at_call 152; refine (facing_any b _ (unhide HSD).1 _).mono ?_; rintro e w2 ⟨rfl, rfl⟩)
      | (go_at_call 153; refine (unhide HO 0 _ ((Fr.refl _ _).alloc _)).mono ?_; rintro e w3 ⟨rfl, rfl⟩))
    go_ret
    exact ⟨retB (by rw [unhide HM]; simp), (Fr.refl _ _).alloc _⟩
  · have h5b : (kind == 5) = false := by simpa using h5
    by_cases h4 : kind = 4
    · subst h4
      have HM2 : Hid (RR = decide (openAtO (3 - xs) xp xt F < xo)) := by show _ = _; rw [unhide HM]; simp
      clear HM h5
      go_enter Tryz.func129, Tryz.ntmps129
      go_wp2_with (go_at_call 152; refine (facing_any b _ (unhide HSD).1 _).mono ?_; rintro e w2 ⟨rfl, rfl⟩)
      go_quiet (first | (go_at_call 153; exact Calls.quiet_of_same (unhide HO xt _ (((Fr.refl _ _).alloc _).drewN _))))
      go_wp2
      go_ret
      exact ⟨retB (by rw [unhide HM2]), ((Fr.refl _ _).alloc _).drewN _⟩
    · have h4b : (kind == 4) = false := by simpa using h4
      have HM2 : Hid (RR = false) := by show _ = _; rw [unhide HM]; simp [h4, h5]
      clear HM h5 h4
      go_enter Tryz.func129, Tryz.ntmps129
      go_wp2_with (go_at_call 152; refine (facing_any b _ (unhide HSD).1 _).mono ?_; rintro e w2 ⟨rfl, rfl⟩)
      go_ret
      exact ⟨retB (by rw [unhide HM2]), (Fr.refl _ _).alloc _⟩

set_option maxHeartbeats 2000000 in
theorem bBars_any (b bx : Nat) (tr : Bool) (td : Int) (v : Nat → Value) (M : Nat → List Ord) (x : Ord) (kind : Int) (hs : x.side = 1 ∨ x.side = 2) (w : World) (h : PB w b bx tr td v M) (hop : ∀ j, j < 2 → ∀ y ∈ M j, 1 ≤ y.opn ∧ y.opn ≤ 1000000) :
    Calls Tryz.prog 91 #[.pointer (some ⟨b, 0, none⟩), x.val, .int .i64 kind] w fun e w' => e = .returned (.int .i64 (barsB tr M x kind)) ∧ Fr No w w' := by
  obtain ⟨xid, xt, xb, xs, xp, xo⟩ := x
  have hp := h.cells.1
  have hb := h.lt
  have HB := hide (And.intro h (And.intro hop hs))
  obtain ⟨R, hR⟩ : ∃ R, decide (200 ≤ (M 0).length + (M 1).length) = R := ⟨_, rfl⟩
  obtain ⟨X, hX⟩ : ∃ X, mismB M ⟨xid, xt, xb, xs, xp, xo⟩ kind = X := ⟨_, rfl⟩
  have HG : Hid (barsB tr M ⟨xid, xt, xb, xs, xp, xo⟩ kind = if tr = false ∧ kind ≠ 1 then 6 else if X = true then 7 else if (kind == 1 || kind == 5) = true ∧ R = true then 5 else 0) := by
    show _ = _
    rw [← hR, ← hX]
    simp [barsB, waitsB]
  have HR := hide hR
  have HX := hide hX
  generalize barsB tr M ⟨xid, xt, xb, xs, xp, xo⟩ kind = B at *
  clear h hop hs hR hX
  unfold Ord.val
  simp only
  have tail : ∀ (htk : tr = true ∨ kind = 1), Calls Tryz.prog 91 #[.pointer (some ⟨b, 0, none⟩), .agg #[.int .i64 xid, .int .i64 xt, .int .i64 xb, .int .i64 xs, .int .i64 xp, .int .i64 xo], .int .i64 kind] w fun e w' => e = .returned (.int .i64 B) ∧ Fr No w w' := by
    intro htk
    have hb2 : ((if tr = true then (2 : Int) else 1) == 1 && kind != 1) = false := by
      rcases htk with rfl | rfl <;> simp
    have HB2 : Hid (B = if X = true then 7 else if (kind == 1 || kind == 5) = true ∧ R = true then 5 else 0) := by
      show _ = _
      rw [unhide HG, if_neg]
      rintro ⟨e1, e2⟩
      rcases htk with e | e
      · rw [e1] at e; cases e
      · exact e2 e
    clear HG
    have hcase : (tr = true ∧ (if tr = true then (2 : Int) else 1) = 2) ∨ (kind = 1 ∧ tr = false ∧ (if tr = true then (2 : Int) else 1) = 1) := by
      cases tr
      · exact .inr ⟨htk.resolve_left (by decide), rfl, rfl⟩
      · exact .inl ⟨rfl, rfl⟩
    clear htk hb2
    rcases hcase with ⟨rfl, he⟩ | ⟨rfl, rfl, he⟩
    all_goals
      rw [he] at hp
      go_enter Tryz.func91, Tryz.ntmps91
      go_wp2_with (first
        | (go_at_call 129; refine (mism_any b bx _ td v M ⟨xid, xt, xb, xs, xp, xo⟩ _ (unhide HB).2.2 _ ((unhide HB).1.no ((Fr.refl _ _).alloc _)) (unhide HB).2.1).mono ?_; rintro e w2 ⟨rfl, hf2⟩; rw [unhide HX]; have HF := hide (Fr.quiet ((Fr.refl No w).alloc _) hf2); clear hf2)
        | (go_at_call 130; refine (waits_any _ _).mono ?_; rintro e w3 ⟨rfl, rfl⟩)
        | (go_at_call 131; refine (bFull_any b bx _ td v M _ ((unhide HB).1.no (unhide HF))).mono ?_; rintro e w4 ⟨rfl, rfl⟩; rw [unhide HR]))
      all_goals go_ret
      all_goals exact ⟨retI (by rw [unhide HB2]; simp_all <;> (cases R <;> simp_all <;> omega)), unhide HF⟩
  by_cases htk : tr = true ∨ kind = 1
  · exact tail htk
  · have htr : tr = false := by cases tr <;> simp_all
    have hk : kind ≠ 1 := fun e => htk (.inr e)
    subst htr
    have hkb : (kind != 1) = true := by simpa using hk
    have HB2 : Hid (B = 6) := by show _ = _; rw [unhide HG]; simp [hk]
    clear tail HG htk hk
    simp only [Bool.false_eq_true, if_false] at hp
    go_enter Tryz.func91, Tryz.ntmps91
    go_wp2_with fail
    go_ret
    exact ⟨retI (unhide HB2).symm, (Fr.refl _ _).alloc _⟩
end Go.Proofs.YtigpgnjgmaoejaaGreat

/- Contract of a book's Enter, whether it gathers or trades. Conditions: the book and the total lie in memory, fewer than 1000 orders on a side, what is open of each is from 1 to 1000000. -/
namespace Go.Proofs.YtigpgnjgmaoejaaGreat
open Go.RowKit

theorem meet_any (b bx : Nat) (tr : Bool) (td : Int) (v : Nat → Value) (M : Nat → List Ord) (c : Array Value) (vol : Int) (x : Ord) (kind : Int) (hsd : x.side = 1 ∨ x.side = 2) (w : World) (h : PX w b bx tr td v M c vol)
    (hop : ∀ y ∈ M (sj (3 - x.side)), 1 ≤ y.opn ∧ y.opn ≤ 1000000) (ho : 0 ≤ x.opn ∧ x.opn ≤ 1000000) (htd : wrp td = td) (hvol : wrp vol = vol) (R : List Ord × Int × Int × List Ev) (hR : meetP (rch kind x.side x.price) x (M (sj (3 - x.side))) 0 x.opn [] = R) :
    Calls Tryz.prog 133 #[.pointer (some ⟨b, 0, none⟩), x.val, .int .i64 kind] w fun e w' => ∃ l v', e = .returned (.tuple #[l, .int .i64 R.2.2.1]) ∧ MeetTo w w' b bx tr v v' (upd M (sj (3 - x.side)) R.1) c (wrp (td + R.2.1)) (wrp (vol + R.2.1)) l R.2.2.2 := by
  by_cases hk : kind = 2
  · exact meet_all b bx tr td v M c vol x kind hk hsd w h hop ho htd hvol R hR
  · exact meet_reach b bx tr td v M c vol x kind hk hsd w h hop ho htd hvol R hR
theorem meetP_evs {rc : Int → Bool} {x : Ord} : ∀ {L : List Ord} {t o : Int} {E : List Ev}, (meetP rc x L t o E).2.2.2.length ≤ E.length + L.length
  | [], t, o, E => by simp [meetP]
  | y :: R, t, o, E => by
    have h1 := fun t o E => meetP_evs (rc := rc) (x := x) (L := R) (t := t) (o := o) (E := E)
    simp only [meetP]
    split
    · split
      · have := h1 t o (E ++ [goneO y]); simp at this ⊢; omega
      · split
        · have := h1 (t + y.opn) (o - y.opn) (E ++ [tradedE x.id y.id y.price y.opn]); simp at this ⊢; omega
        · simp
    · simp
theorem box6s {W : World} {b : Nat} {T : TypeId} {x0 x1 x2 x3 x4 x5 : Value} (h : W.heap[b]? = some (.cells #[x0, x1, x2, x3, x4, x5] T (0, 0))) (u : Value) : (W.setCell ⟨b, 5, none⟩ u).heap[b]? = some (.cells #[x0, x1, x2, x3, x4, u] T (0, 0)) := by
  rw [heap_set h]; rfl

/-- What is known behind a meeting. -/
structure EMid (w wr : World) (b bx N : Nat) (tr : Bool) (c : Array Value) (v v' : Nat → Value) (l : Value) (x : Ord) (M : Nat → List Ord) (td vol o : Int) (E : List Ev) : Prop where
  mid : BMid w wr b bx N tr c v v' l x M td vol o E
  len : ∀ j, j < 2 → (M j).length < 1000
  ne : 0 < E.length
  evl : E.length ≤ 2000

/-- What comes of an order that comes in. -/
def EnterPost (w : World) (b bx : Nat) (tr : Bool) (td : Int) (v : Nat → Value) (c : Array Value) (vol : Int) (R : (Nat → List Ord) × Int × List Ev) (e : Ending) (w' : World) : Prop :=
  ∃ r v', e = .returned r ∧ MeetTo w w' b bx tr v v' R.1 c (wrp (td + R.2.1)) (wrp (vol + R.2.1)) r R.2.2

set_option maxHeartbeats 8000000 in
set_option maxRecDepth 100000 in
theorem bEnter_any (b bx : Nat) (tr : Bool) (td : Int) (v : Nat → Value) (M : Nat → List Ord) (c : Array Value) (vol : Int) (x : Ord) (kind : Int) (hs : x.side = 1 ∨ x.side = 2) (ho : 1 ≤ x.opn ∧ x.opn ≤ 1000000) (hop : ∀ j, j < 2 → ∀ y ∈ M j, 1 ≤ y.opn ∧ y.opn ≤ 1000000) (hl : ∀ j, j < 2 → (M j).length < 1000)
    (htd : wrp td = td) (hvol : wrp vol = vol) (w : World) (h : PX w b bx tr td v M c vol) :
    Calls Tryz.prog 92 #[.pointer (some ⟨b, 0, none⟩), x.val, .int .i64 kind] w (EnterPost w b bx tr td v c vol (enterB tr M x kind)) := by
  obtain ⟨xid, xt, xb, xs, xp, xo⟩ := x
  simp only at hs ho
  have hmb := meetB_spec (tr := tr) (M := M) (x := ⟨xid, xt, xb, xs, xp, xo⟩) (kind := kind) (hop _ (fj_lt xs)) (by show (0 : Int) ≤ xo; omega)
  have hX : ∀ (M1 : Nat → List Ord) (t o : Int) (E : List Ev), M1 = upd M (fj xs) (meetB tr M ⟨xid, xt, xb, xs, xp, xo⟩ kind).1 → t = (meetB tr M ⟨xid, xt, xb, xs, xp, xo⟩ kind).2.1 → o = (meetB tr M ⟨xid, xt, xb, xs, xp, xo⟩ kind).2.2.1 → E = takenE xid xo :: (meetB tr M ⟨xid, xt, xb, xs, xp, xo⟩ kind).2.2.2 →
      (o = 0 → enterB tr M ⟨xid, xt, xb, xs, xp, xo⟩ kind = (M1, t, E)) ∧ (o ≠ 0 → waitsB kind = true → enterB tr M ⟨xid, xt, xb, xs, xp, xo⟩ kind = (putM ⟨xid, xt, xb, xs, xp, o⟩ M1, t, E ++ [restsE xid xp o])) ∧ (o ≠ 0 → waitsB kind = false → enterB tr M ⟨xid, xt, xb, xs, xp, xo⟩ kind = (M1, t, E ++ [goneE xid o])) := by
    rintro M1 t o E rfl rfl rfl rfl
    refine ⟨fun h => ?_, fun h hw => ?_, fun h hw => ?_⟩
    · unfold enterB; simp only; rw [if_pos h]
    · unfold enterB; simp only; rw [if_neg h, if_pos hw]
    · unfold enterB; simp only; rw [if_neg h, if_neg (by rw [hw]; decide)]
  have hln1 : ∀ j, j < 2 → (upd M (fj xs) (meetB tr M ⟨xid, xt, xb, xs, xp, xo⟩ kind).1 j).length < 1000 := fun j hj => by
    have h1 := (sub_upd hop hmb.1 j hj).len
    have h2 := hl j hj
    exact Nat.lt_of_le_of_lt h1 h2
  have hbl := h.pb.lt
  have hph := h.pb.cells.1
  have ha0 : BAt w b bx w.heap.size v := ⟨rfl, h.lt⟩
  have HB := hide (And.intro h (And.intro hop (And.intro htd hvol)))
  have HL := hide (And.intro hl hln1)
  have HSD := hide hs
  have HOO := hide ho
  have HXX := hide hX
  have HMB := hide hmb
  generalize enterB tr M ⟨xid, xt, xb, xs, xp, xo⟩ kind = RR at *
  clear h hop hl hs htd hvol hX hmb hln1 ho
  unfold Ord.val
  simp only at *
  cases tr with
  | false =>
    simp only [Bool.false_eq_true, if_false] at hph
    go_enter Tryz.func92, Tryz.ntmps92
    go_wp2_with fail
    generalize hW0 : World.alloc w _ = W0
    have hf0 : Fr No w W0 := by rw [← hW0]; exact (Fr.refl _ _).alloc _
    have hx0 : W0.heap[w.heap.size]? = some (.cells #[.int .i64 xid, .int .i64 xt, .int .i64 xb, .int .i64 xs, .int .i64 xp, .int .i64 xo] 95 (0, 0)) := by rw [← hW0]; exact heap_alloc_new w _
    clear hW0
    refine (eTaken_any ⟨xid, xt, xb, xs, xp, xo⟩ W0).mono ?_
    rintro e w1 ⟨rfl, hf1'⟩
    have hf1 := hf0.quiet hf1'
    have hx1 := hf1'.heap hx0 id
    have hN1 : w.heap.size < w1.heap.size := lt_of_heap hx1
    have hb1 : b < w1.heap.size := by omega
    have hp1 : w1.cell? ⟨b, 0, none⟩ = _ := (hf1.below.cell (p := ⟨b, 0, none⟩) hbl).trans hph
    obtain ⟨y0, y1, y2, y3, y4, y5, -⟩ := box6 hx1
    have HF1 := hide (And.intro hf1 hx1)
    clear hf0 hx0 hf1' hf1 hx1 hph hbl
    generalize hNN : w.heap.size = N at *
    have HN := hide ha0
    clear hNN ha0
    rw [show (takenE xid xo).val = .agg #[.int .i64 2, .int .i64 xid, .int .i64 0, .int .i64 0, .int .i64 xo, .int .i64 0] from rfl]
    have hxo : (xo == 0) = false := by have := unhide HOO; simp; omega
    have HO : Hid (xo ≠ 0) := by show _ ≠ _; have := unhide HOO; omega
    go_wp2_with fail
    generalize hW2 : World.alloc w1 _ = W2
    have hf2' : Fr No w1 W2 := by rw [← hW2]; exact (Fr.refl _ _).alloc _
    have he2 : Es W2 N (.slice (some ⟨w1.heap.size, 0, none⟩) 1 1) [takenE xid xo] := by rw [← hW2]; exact es_newAt (takenE xid xo) rfl (by omega)
    have hf2 := (unhide HF1).1.quiet hf2'
    have hx2 := hf2'.heap (unhide HF1).2 id
    have HF2 := hide (And.intro hf2 (And.intro he2 hx2))
    clear hf2' he2 hf2 hx2 hW2 y0 y1 y2 y3 y4 y5
    have hE : EMid w W2 b bx N false c v v (.slice (some ⟨w1.heap.size, 0, none⟩) 1 1) ⟨xid, xt, xb, xs, xp, xo⟩ M (wrp (td + 0)) (wrp (vol + 0)) xo [takenE xid xo] := by
      obtain ⟨hp, hop, ht, hv⟩ := unhide HB
      rw [Int.add_zero, Int.add_zero, ht, hv]
      exact ⟨⟨(hp.no (unhide HF2).1), (unhide HF2).1.of_no, fun g hg => .inl hg, (unhide HF2).2.1, fun g hg => by
        have e := own_eq hg
        subst e
        exact ⟨hN1, fun e => by have := hp.pb.blt _ e; have := (unhide HN).n; omega⟩, (unhide HF2).2.2⟩, (unhide HL).1, by simp, by simp⟩
    have hX := unhide HXX M 0 xo [takenE xid xo] (by funext k; unfold upd meetB; simp; intro e; rw [e]) (by simp [meetB]) (by simp [meetB]) (by simp [meetB])
    have HE := hide hE
    have HX := hide hX
    obtain ⟨y0, y1, y2, y3, y4, y5, -⟩ := box6 hE.mid.box
    have hNw := lt_of_heap hE.mid.box
    clear hE hX hxo
    generalize W2 = wr at *
    · cases hwk : waitsB kind with
      | true =>
        have hwk2 : (kind == 1 || kind == 5) = true := hwk
        have HWK := hide hwk
        clear hwk
        have hbw : b < wr.heap.size := (unhide HE).mid.px.pb.lt
        refine (waits_any kind wr).mono ?_
        rintro e w9 ⟨rfl, hw1⟩
        have hw2 := hw1.symm
        subst hw2
        rw [hwk2]
        go_wp2_with fail
        have HW : Hid (∀ w', Fr No wr w' → Calls Tryz.prog 134 #[.pointer (some ⟨b, sAt xs, none⟩), .agg #[.int .i64 xid, .int .i64 xt, .int .i64 xb, .int .i64 xs, .int .i64 xp, .int .i64 xo]] w' fun e w'' => e = .returned (.tuple #[]) ∧ ∃ v5, BTo w' w'' b bx false (wrp (td + 0)) v v5 (putM ⟨xid, xt, xb, xs, xp, xo⟩ M)) := fun w' hf =>
          bput_any b bx false (wrp (td + 0)) v M ⟨xid, xt, xb, xs, xp, xo⟩ (unhide HSD) w' ((unhide HE).mid.px.pb.no hf) (unhide HE).len
        go_region_held3 (fun w' : World => w'.cell? ⟨N, 0, none⟩ = some (.int .i64 xid) ∧ w'.cell? ⟨N, 1, none⟩ = some (.int .i64 xt) ∧ w'.cell? ⟨N, 2, none⟩ = some (.int .i64 xb) ∧ w'.cell? ⟨N, 3, none⟩ = some (.int .i64 xs) ∧ w'.cell? ⟨N, 4, none⟩ = some (.int .i64 xp) ∧ w'.cell? ⟨N, 5, none⟩ = some (.int .i64 xo)) (go_keep)
          (first
            | (go_at_call 55; refine (bSide_any b _ (unhide HSD) _).mono ?_; rintro e w2 ⟨rfl, rfl⟩)
            | (go_at_call 134; refine (unhide HW _ ((Fr.refl _ _).drew)).mono ?_; rintro e w5 ⟨rfl, v5, ht⟩; have hm5 := ((unhide HE).mid.no ((Fr.refl _ _).drew)).side (unhide HN) ht; obtain ⟨q0, q1, q2, q3, q4, q5, _⟩ := box6 hm5.box; have HM5 := hide hm5; clear ht hm5))
        have hN5 := lt_of_heap (unhide HM5).box
        clear y0 y1 y2 y3 y4 y5
        go_wp2_with fail
        refine (eRests_any ⟨xid, xt, xb, xs, xp, xo⟩ w5).mono ?_
        rintro e w6 ⟨rfl, hf6⟩
        have hm6 := (unhide HM5).no hf6
        have hN6 := lt_of_heap hm6.box
        have hE1 := (unhide HE).evl
        have HM6 := hide hm6
        clear hm6 hf6 q0 q1 q2 q3 q4 q5
        rw [show (restsE xid xp xo).val = .agg #[.int .i64 4, .int .i64 xid, .int .i64 0, .int .i64 xp, .int .i64 xo, .int .i64 0] from rfl]
        go_wp2_with (at_builtin; refine app_ev rfl (.tmp 44) (.tmp 47) rfl N _ [takenE xid xo] (own_fr (S := No) (unhide HM6).evs ((Fr.refl No _).alloc _) (fun _ _ => id)) rfl ⟨w6.heap.size, 0, none⟩ 1 1 [restsE xid xp xo] rfl rfl (by simp) (new_cells w6 (restsE xid xp xo).cells _) (by simp at hE1 ⊢; try omega) (by simp; omega) ?_; intro g9 c9 w9 hown9 hfr9 hat9 hlt9; have hm9 := (unhide HM6).more (unhide HN) ((Fr.refl No _).alloc _) hfr9 hown9 (hat9.imp id (fun h => by have : g9 = w6.heap.size + 1 := (by simpa using h); omega)); have HM9 := hide hm9; clear hm9 hown9 hfr9 hat9)
        go_ret
        rw [(unhide HX).2.1 (unhide HO) (unhide HWK)]
        exact ⟨_, v5, rfl, (unhide HM9).out (unhide HN)⟩
      | false =>
        have hwk2 : (kind == 1 || kind == 5) = false := hwk
        have HWK := hide hwk
        clear hwk
        refine (waits_any kind wr).mono ?_
        rintro e w9 ⟨rfl, hw1⟩
        have hw2 := hw1.symm
        subst hw2
        rw [hwk2]
        go_wp2_with fail
        refine (eGone_any ⟨xid, xt, xb, xs, xp, xo⟩ wr).mono ?_
        rintro e w6 ⟨rfl, hf6⟩
        have hm6 := (unhide HE).mid.no hf6
        have hN6 := lt_of_heap hm6.box
        have hE1 := (unhide HE).evl
        have HM6 := hide hm6
        clear hm6 hf6 y0 y1 y2 y3 y4 y5
        rw [show (goneO ⟨xid, xt, xb, xs, xp, xo⟩).val = .agg #[.int .i64 5, .int .i64 xid, .int .i64 0, .int .i64 0, .int .i64 xo, .int .i64 0] from rfl]
        go_wp2_with (at_builtin; refine app_ev rfl (.tmp 49) (.tmp 52) rfl N _ [takenE xid xo] (own_fr (S := No) (unhide HM6).evs ((Fr.refl No _).alloc _) (fun _ _ => id)) rfl ⟨w6.heap.size, 0, none⟩ 1 1 [goneE xid xo] rfl rfl (by simp) (new_cells w6 (goneE xid xo).cells _) (by simp at hE1 ⊢; try omega) (by simp; omega) ?_; intro g9 c9 w9 hown9 hfr9 hat9 hlt9; have hm9 := (unhide HM6).more (unhide HN) ((Fr.refl No _).alloc _) hfr9 hown9 (hat9.imp id (fun h => by have : g9 = w6.heap.size + 1 := (by simpa using h); omega)); have HM9 := hide hm9; clear hm9 hown9 hfr9 hat9)
        go_ret
        rw [(unhide HX).2.2 (unhide HO) (unhide HWK)]
        exact ⟨_, v, rfl, (unhide HM9).out (unhide HN)⟩
  | true =>
    simp only [if_true] at hph
    go_enter Tryz.func92, Tryz.ntmps92
    go_wp2_with fail
    generalize hW0 : World.alloc w _ = W0
    have hf0 : Fr No w W0 := by rw [← hW0]; exact (Fr.refl _ _).alloc _
    have hx0 : W0.heap[w.heap.size]? = some (.cells #[.int .i64 xid, .int .i64 xt, .int .i64 xb, .int .i64 xs, .int .i64 xp, .int .i64 xo] 95 (0, 0)) := by rw [← hW0]; exact heap_alloc_new w _
    clear hW0
    refine (eTaken_any ⟨xid, xt, xb, xs, xp, xo⟩ W0).mono ?_
    rintro e w1 ⟨rfl, hf1'⟩
    have hf1 := hf0.quiet hf1'
    have hx1 := hf1'.heap hx0 id
    have hN1 : w.heap.size < w1.heap.size := lt_of_heap hx1
    have hb1 : b < w1.heap.size := by omega
    have hp1 : w1.cell? ⟨b, 0, none⟩ = _ := (hf1.below.cell (p := ⟨b, 0, none⟩) hbl).trans hph
    obtain ⟨y0, y1, y2, y3, y4, y5, -⟩ := box6 hx1
    have HF1 := hide (And.intro hf1 hx1)
    clear hf0 hx0 hf1' hf1 hx1 hph hbl
    generalize hNN : w.heap.size = N at *
    have HN := hide ha0
    clear hNN ha0
    rw [show (takenE xid xo).val = .agg #[.int .i64 2, .int .i64 xid, .int .i64 0, .int .i64 0, .int .i64 xo, .int .i64 0] from rfl]
    go_wp2_with fail
    generalize hW2 : World.alloc w1 _ = W2
    have hw12 : w1.heap.size < W2.heap.size := by rw [← hW2]; simp
    have hf2' : Fr No w1 W2 := by rw [← hW2]; exact (Fr.refl _ _).alloc _
    have he2 : Es W2 N (.slice (some ⟨w1.heap.size, 0, none⟩) 1 1) [takenE xid xo] := by rw [← hW2]; exact es_newAt (takenE xid xo) rfl (by omega)
    have hf2 := (unhide HF1).1.quiet hf2'
    have hx2 := hf2'.heap (unhide HF1).2 id
    have HF2 := hide (And.intro hf2 (And.intro he2 hx2))
    clear hf2' he2 hf2 hx2 hW2 y0 y1 y2 y3 y4 y5
    obtain ⟨⟨F1, t1, o, E2⟩, hR⟩ : ∃ R, meetP (rch kind xs xp) ⟨xid, xt, xb, xs, xp, xo⟩ (M (sj (3 - xs))) 0 xo [] = R := ⟨_, rfl⟩
    have hMB : meetB true M ⟨xid, xt, xb, xs, xp, xo⟩ kind = (F1, t1, o, E2) := by rw [← hR, ← fj_sj (unhide HSD)]; simp [meetB]
    have hE2 : E2.length ≤ 1000 := by
      have := meetP_evs (rc := rch kind xs xp) (x := ⟨xid, xt, xb, xs, xp, xo⟩) (L := M (sj (3 - xs))) (t := 0) (o := xo) (E := [])
      rw [hR] at this
      have h2 := (unhide HL).1 _ (sj_lt (3 - xs))
      simp at this
      omega
    have hX := unhide HXX (upd M (fj xs) F1) t1 o (takenE xid xo :: E2) (by rw [hMB]) (by rw [hMB]) (by rw [hMB]) (by rw [hMB])
    have hL1 := (unhide HL).2
    rw [hMB] at hL1
    refine (meet_any b bx true td v M c vol ⟨xid, xt, xb, xs, xp, xo⟩ kind (unhide HSD) W2 ((unhide HB).1.no (unhide HF2).1) ((unhide HB).2.1 _ (sj_lt _)) (by have := unhide HOO; show (0 : Int) ≤ xo ∧ xo ≤ 1000000; omega) (unhide HB).2.2.1 (unhide HB).2.2.2 _ hR).mono ?_
    rintro e w3 ⟨l3, v3, rfl, hm3⟩
    rw [← fj_sj (unhide HSD)] at hm3
    simp only at hm3
    have hB3 : BMid w w3 b bx N true c v v3 (.slice (some ⟨w1.heap.size, 0, none⟩) 1 1) ⟨xid, xt, xb, xs, xp, xo⟩ (upd M (fj xs) F1) (wrp (td + t1)) (wrp (vol + t1)) xo [takenE xid xo] := by
      obtain ⟨hf2, he2, hx2⟩ := unhide HF2
      have hlt := (unhide HN).lt
      have hs2 := hf2.size
      have hnn := (unhide HN).n
      refine ⟨hm3.px, hf2.of_no.same hm3.fr, fun g hg => (hm3.new g hg).imp id fun h => by omega, own_fr he2 hm3.fr fun g hg e => ?_, fun g hg => ?_, hm3.fr.heap hx2 fun e => by have := hlt N e; omega⟩
      · have e1 := own_eq hg
        have := hlt g e
        omega
      · have e1 := own_eq hg
        subst e1
        refine ⟨hN1, fun e => ?_⟩
        rcases hm3.new _ e with h | h
        · have := hlt _ (.inr h); omega
        · omega
    have HM3 := hide (And.intro hB3 hm3.evs)
    have HX := hide hX
    have HL1 := hide hL1
    have HE2 := hide hE2
    obtain ⟨y0, y1, y2, y3, y4, y5, -⟩ := box6 hB3.box
    have hN3 := lt_of_heap hB3.box
    clear hB3 hm3 hX hL1 hR hMB hE2
    by_cases ho0 : o = 0
    · have hob : (o == 0) = true := by simpa using ho0
      have HO := hide ho0
      clear ho0
      go_wp2_with (at_builtin; refine app_evs rfl (.tmp 25) (.tmp 26) rfl N _ [takenE xid xo] (unhide HM3).1.evs (by simp) rfl _ _ E2 (unhide HM3).2 rfl (by have := unhide HE2; simp; omega) (by omega) ?_; intro g5 c5 w5 hown5 hfr5 hat5 hlt5; have hm5 := (unhide HM3).1.more (unhide HN) (Fr.refl _ _) hfr5 hown5 (hat5.imp id (fun h => by omega)); obtain ⟨q0, q1, q2, q3, q4, q5, -⟩ := box6 hm5.box; have hqf := box6o hm5.box; have hN5 := lt_of_heap hm5.box; have HM5 := hide hm5; clear hm5 hown5 hfr5 hat5)
      go_ret
      rw [(unhide HX).1 (unhide HO)]
      exact ⟨_, v3, rfl, by have := ((unhide HM5).setO (unhide HN) o).out (unhide HN); exact this⟩
    · have hob : (o == 0) = false := by simpa using ho0
      have HO := hide ho0
      clear ho0
      go_wp2_with (at_builtin; refine app_evs rfl (.tmp 25) (.tmp 26) rfl N _ [takenE xid xo] (unhide HM3).1.evs (by simp) rfl _ _ E2 (unhide HM3).2 rfl (by have := unhide HE2; simp; omega) (by omega) ?_; intro g5 c5 w5 hown5 hfr5 hat5 hlt5; have hm5 := (unhide HM3).1.more (unhide HN) (Fr.refl _ _) hfr5 hown5 (hat5.imp id (fun h => by omega)); obtain ⟨q0, q1, q2, q3, q4, q5, -⟩ := box6 hm5.box; have hqf := box6o hm5.box; have hN5 := lt_of_heap hm5.box; have HM5 := hide hm5; clear hm5 hown5 hfr5 hat5)
      generalize hWr : World.setCell w5 _ _ = wr
      have hE : EMid w wr b bx N true c v v3 (.slice (some ⟨g5, 0, none⟩) (1 + E2.length) c5) ⟨xid, xt, xb, xs, xp, xo⟩ (upd M (fj xs) F1) (wrp (td + t1)) (wrp (vol + t1)) o (takenE xid xo :: E2) := by
        rw [← hWr]
        exact ⟨(unhide HM5).setO (unhide HN) o, unhide HL1, by simp, by simp; have := unhide HE2; omega⟩
      clear y0 y1 y2 y3 y4 y5
      have HE := hide hE
      obtain ⟨y0, y1, y2, y3, y4, y5, -⟩ := box6 hE.mid.box
      have hNw := lt_of_heap hE.mid.box
      clear hE hWr
      cases hwk : waitsB kind with
      | true =>
        have hwk2 : (kind == 1 || kind == 5) = true := hwk
        have HWK := hide hwk
        clear hwk
        have hbw : b < wr.heap.size := (unhide HE).mid.px.pb.lt
        refine (waits_any kind wr).mono ?_
        rintro e w9 ⟨rfl, hw1⟩
        have hw2 := hw1.symm
        subst hw2
        rw [hwk2]
        go_wp2_with fail
        have HW : Hid (∀ w', Fr No wr w' → Calls Tryz.prog 134 #[.pointer (some ⟨b, sAt xs, none⟩), .agg #[.int .i64 xid, .int .i64 xt, .int .i64 xb, .int .i64 xs, .int .i64 xp, .int .i64 o]] w' fun e w'' => e = .returned (.tuple #[]) ∧ ∃ v5, BTo w' w'' b bx true (wrp (td + t1)) v3 v5 (putM ⟨xid, xt, xb, xs, xp, o⟩ (upd M (fj xs) F1))) := fun w' hf =>
          bput_any b bx true (wrp (td + t1)) v3 (upd M (fj xs) F1) ⟨xid, xt, xb, xs, xp, o⟩ (unhide HSD) w' ((unhide HE).mid.px.pb.no hf) (unhide HE).len
        go_region_held3 (fun w' : World => w'.cell? ⟨N, 0, none⟩ = some (.int .i64 xid) ∧ w'.cell? ⟨N, 1, none⟩ = some (.int .i64 xt) ∧ w'.cell? ⟨N, 2, none⟩ = some (.int .i64 xb) ∧ w'.cell? ⟨N, 3, none⟩ = some (.int .i64 xs) ∧ w'.cell? ⟨N, 4, none⟩ = some (.int .i64 xp) ∧ w'.cell? ⟨N, 5, none⟩ = some (.int .i64 o)) (go_keep)
          (first
            | (go_at_call 55; refine (bSide_any b _ (unhide HSD) _).mono ?_; rintro e w2 ⟨rfl, rfl⟩)
            | (go_at_call 134; refine (unhide HW _ ((Fr.refl _ _).drew)).mono ?_; rintro e w5 ⟨rfl, v5, ht⟩; have hm5 := ((unhide HE).mid.no ((Fr.refl _ _).drew)).side (unhide HN) ht; obtain ⟨q0, q1, q2, q3, q4, q5, _⟩ := box6 hm5.box; have HM5 := hide hm5; clear ht hm5))
        have hN5 := lt_of_heap (unhide HM5).box
        clear y0 y1 y2 y3 y4 y5
        go_wp2_with fail
        refine (eRests_any ⟨xid, xt, xb, xs, xp, o⟩ w5).mono ?_
        rintro e w6 ⟨rfl, hf6⟩
        have hm6 := (unhide HM5).no hf6
        have hN6 := lt_of_heap hm6.box
        have hE1 := (unhide HE).evl
        have HM6 := hide hm6
        clear hm6 hf6 q0 q1 q2 q3 q4 q5
        rw [show (restsE xid xp o).val = .agg #[.int .i64 4, .int .i64 xid, .int .i64 0, .int .i64 xp, .int .i64 o, .int .i64 0] from rfl]
        go_wp2_with (at_builtin; refine app_ev rfl (.tmp 44) (.tmp 47) rfl N _ (takenE xid xo :: E2) (own_fr (S := No) (unhide HM6).evs ((Fr.refl No _).alloc _) (fun _ _ => id)) rfl ⟨w6.heap.size, 0, none⟩ 1 1 [restsE xid xp o] rfl rfl (by simp) (new_cells w6 (restsE xid xp o).cells _) (by simp at hE1 ⊢; try omega) (by simp; omega) ?_; intro g9 c9 w9 hown9 hfr9 hat9 hlt9; have hm9 := (unhide HM6).more (unhide HN) ((Fr.refl No _).alloc _) hfr9 hown9 (hat9.imp id (fun h => by have : g9 = w6.heap.size + 1 := (by simpa using h); omega)); have HM9 := hide hm9; clear hm9 hown9 hfr9 hat9)
        go_ret
        rw [(unhide HX).2.1 (unhide HO) (unhide HWK)]
        exact ⟨_, v5, rfl, (unhide HM9).out (unhide HN)⟩
      | false =>
        have hwk2 : (kind == 1 || kind == 5) = false := hwk
        have HWK := hide hwk
        clear hwk
        refine (waits_any kind wr).mono ?_
        rintro e w9 ⟨rfl, hw1⟩
        have hw2 := hw1.symm
        subst hw2
        rw [hwk2]
        go_wp2_with fail
        refine (eGone_any ⟨xid, xt, xb, xs, xp, o⟩ wr).mono ?_
        rintro e w6 ⟨rfl, hf6⟩
        have hm6 := (unhide HE).mid.no hf6
        have hN6 := lt_of_heap hm6.box
        have hE1 := (unhide HE).evl
        have HM6 := hide hm6
        clear hm6 hf6 y0 y1 y2 y3 y4 y5
        rw [show (goneO ⟨xid, xt, xb, xs, xp, o⟩).val = .agg #[.int .i64 5, .int .i64 xid, .int .i64 0, .int .i64 0, .int .i64 o, .int .i64 0] from rfl]
        go_wp2_with (at_builtin; refine app_ev rfl (.tmp 49) (.tmp 52) rfl N _ (takenE xid xo :: E2) (own_fr (S := No) (unhide HM6).evs ((Fr.refl No _).alloc _) (fun _ _ => id)) rfl ⟨w6.heap.size, 0, none⟩ 1 1 [goneE xid o] rfl rfl (by simp) (new_cells w6 (goneE xid o).cells _) (by simp at hE1 ⊢; try omega) (by simp; omega) ?_; intro g9 c9 w9 hown9 hfr9 hat9 hlt9; have hm9 := (unhide HM6).more (unhide HN) ((Fr.refl No _).alloc _) hfr9 hown9 (hat9.imp id (fun h => by have : g9 = w6.heap.size + 1 := (by simpa using h); omega)); have HM9 := hide hm9; clear hm9 hown9 hfr9 hat9)
        go_ret
        rw [(unhide HX).2.2 (unhide HO) (unhide HWK)]
        exact ⟨_, v3, rfl, (unhide HM9).out (unhide HN)⟩
end Go.Proofs.YtigpgnjgmaoejaaGreat
