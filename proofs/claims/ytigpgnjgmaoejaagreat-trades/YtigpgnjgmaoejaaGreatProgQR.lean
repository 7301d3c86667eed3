/- Contract of a side's levels. Conditions: the side's list lies in memory, at most 1000 orders, each open by at most a million. -/
import Derived.Test.YtigpgnjgmaoejaaGreatProgB
import Derived.Test.YtigpgnjgmaoejaaGreatProgEF
namespace Go.Proofs.YtigpgnjgmaoejaaGreat
open Go.RowKit

theorem addLev_same {l0 : List Lev} {y : Lev} {x : Ord} (h : y.price = x.price) : addLev (l0 ++ [y]) x = l0 ++ [⟨y.price, y.count + x.opn, y.orders + 1⟩] := by
  unfold addLev
  simp [h]
theorem addLev_new {l0 : List Lev} {y : Lev} {x : Ord} (h : y.price ≠ x.price) : addLev (l0 ++ [y]) x = l0 ++ [y] ++ [⟨x.price, x.opn, 1⟩] := by
  unfold addLev
  simp [h]
theorem addLev_take {l : List Lev} {x : Ord} {m : Nat} (h : m < l.length) : (addLev l x).take m = l.take m ∧ m < (addLev l x).length := by
  rcases List.eq_nil_or_concat l with rfl | ⟨l0, y, hl⟩
  · simp at h
  · have hl' : l = l0 ++ [y] := by simpa using hl
    subst hl'
    have hm : m ≤ l0.length := by simp at h; omega
    by_cases hp : y.price = x.price
    · rw [addLev_same hp]
      exact ⟨by rw [List.take_append_of_le_length hm, List.take_append_of_le_length hm], by simp; omega⟩
    · rw [addLev_new hp]
      exact ⟨by rw [List.append_assoc, List.take_append_of_le_length hm, List.take_append_of_le_length hm], by simp; omega⟩
theorem fold_take {m : Nat} : ∀ {R : List Ord} {l : List Lev}, m < l.length → (R.foldl addLev l).take m = l.take m ∧ m < (R.foldl addLev l).length
  | [], _, h => ⟨rfl, h⟩
  | x :: R, l, h => by
    have h1 := addLev_take (x := x) h
    have h2 := fold_take (R := R) h1.2
    exact ⟨h2.1.trans h1.1, h2.2⟩

def lvTo (M : List Ord) (k : Nat) : List Lev := (M.take k).foldl addLev []
theorem lvTo_succ {M : List Ord} {k : Nat} (h : k < M.length) : lvTo M (k + 1) = addLev (lvTo M k) M[k] := by
  unfold lvTo
  rw [List.take_succ_eq_append_getElem h, List.foldl_append]
  rfl
theorem lvTo_ok {M : List Ord} (hop : ∀ o ∈ M, 0 ≤ o.opn ∧ o.opn ≤ 1000000) : ∀ {k : Nat}, k ≤ M.length → LevOk k (lvTo M k)
  | 0, _ => ⟨by simp [lvTo], by simp [lvTo]⟩
  | k + 1, h => by rw [lvTo_succ (by omega)]; exact (lvTo_ok hop (by omega)).add (hop _ (List.getElem_mem (by omega)))
/-- The levels are cut where one more would begin. -/
theorem lvTo_cut {M : List Ord} {k : Nat} (h : k < M.length) {e : Lev} (he : addLev (lvTo M k) M[k] = lvTo M k ++ [e]) : cutTo ((lvTo M k).length : Int) (M.foldl addLev []) = lvTo M k := by
  have h1 : M.foldl addLev [] = (M.drop (k + 1)).foldl addLev (addLev (lvTo M k) M[k]) := by
    have h2 : M.foldl addLev [] = ((M.take (k + 1)) ++ M.drop (k + 1)).foldl addLev [] := by rw [List.take_append_drop]
    rw [h2, List.foldl_append, ← lvTo_succ h]
    rfl
  have h3 := fold_take (m := (lvTo M k).length) (R := M.drop (k + 1)) (l := addLev (lvTo M k) M[k]) (by rw [he]; simp)
  rw [← h1] at h3
  unfold cutTo
  rw [if_pos ⟨by omega, by omega⟩, Int.toNat_natCast, h3.1, he, List.take_append_of_le_length (Nat.le_refl _), List.take_length]
theorem lvTo_end {M : List Ord} {most : Int} (h : 0 ≤ most → ((lvTo M M.length).length : Int) ≤ most) : cutTo most (M.foldl addLev []) = lvTo M M.length := by
  unfold cutTo lvTo at *
  rw [List.take_length] at *
  exact if_neg fun h2 => by have := h h2.1; omega

/-- What is known behind an append of a new level. -/
theorem lev_new {wr W w7 : World} {base g7 n7 c7 : Nat} {l : Value} {lv : List Lev} {x : Ord} {p : Int} {ob : Obj} {T : TypeId} (hls : Ls wr base l lv) (hWx : W.heap[wr.heap.size]? = some (.cells x.cells.toArray T (0, 0)))
    (hown7 : Ls w7 base (.slice (some ⟨g7, 0, none⟩) n7 c7) (lv ++ [⟨p, 0, 0⟩])) (hfr7 : Fr (OwnS l) (W.alloc ob) w7) (hat7 : l.ownBlock = some g7 ∨ g7 = (W.alloc ob).heap.size) :
    Fr (OwnS l) W w7 ∧ w7.heap[wr.heap.size]? = some (.cells x.cells.toArray T (0, 0)) ∧ g7 ≠ wr.heap.size ∧ w7.cell? ⟨g7, lv.length * 3 + 1, none⟩ = some (.int .i64 0) ∧ w7.cell? ⟨g7, lv.length * 3 + 2, none⟩ = some (.int .i64 0) ∧ ∀ k, w7.frozen? ⟨g7, k, none⟩ = false := by
  have hfa : Fr (OwnS l) W w7 := Fr.same ((Fr.refl _ _).alloc _) hfr7
  have hW := lt_of_heap hWx
  obtain ⟨g8, hg8, _, _, _, d1, d2, hz⟩ := ls_at hown7 lv.length (by simp)
  simp only [Option.some.injEq, Addr.mk.injEq, and_true] at hg8
  subst hg8
  simp only [List.getElem_append_right (Nat.le_refl _), Nat.sub_self, List.getElem_cons_zero] at d1 d2
  refine ⟨hfa, hfa.heap hWx (fun e => by have := (hls.lt _ e).2; omega), fun e => ?_, d1, d2, hz⟩
  rcases hat7 with h | h
  · have := (hls.lt _ h).2; omega
  · have h9 : g7 = W.heap.size + 1 := by simpa using h
    omega

theorem lev_add {w7 : World} {base g7 n7 c7 : Nat} {l0 : List Lev} {y : Lev} (h : Ls w7 base (.slice (some ⟨g7, 0, none⟩) n7 c7) (l0 ++ [y])) (c q : Int) :
    Ls ((w7.setCell ⟨g7, l0.length * 3 + 1, none⟩ (.int .i64 c)).drew.setCell ⟨g7, l0.length * 3 + 2, none⟩ (.int .i64 q)) base (.slice (some ⟨g7, 0, none⟩) n7 c7) (l0 ++ [⟨y.price, c, q⟩]) := by
  have hset1 := own_set Lev.len h l0.length 1 (by simp) (by omega) ⟨y.price, c, y.orders⟩ (.int .i64 c) (by simp [Lev.cells])
  have hset2 := own_set Lev.len (own_fr (S := No) hset1 ((Fr.refl _ _).drew) (fun _ _ => id)) l0.length 2 (by simp) (by omega) ⟨y.price, c, q⟩ (.int .i64 q) (by simp [Lev.cells])
  simp only [List.set_append_right _ _ (Nat.le_refl _), Nat.sub_self, List.set_cons_zero] at hset2
  exact hset2
theorem lev_add0 {w7 : World} {base g7 n7 c7 : Nat} {l0 : List Lev} {y : Lev} (h : Ls w7 base (.slice (some ⟨g7, 0, none⟩) n7 c7) (l0 ++ [y])) (c q : Int) :
    Ls ((w7.setCell ⟨g7, l0.length * 3 + 1, none⟩ (.int .i64 c)).setCell ⟨g7, l0.length * 3 + 2, none⟩ (.int .i64 q)) base (.slice (some ⟨g7, 0, none⟩) n7 c7) (l0 ++ [⟨y.price, c, q⟩]) := by
  have hset1 := own_set Lev.len h l0.length 1 (by simp) (by omega) ⟨y.price, c, y.orders⟩ (.int .i64 c) (by simp [Lev.cells])
  have hset2 := own_set Lev.len hset1 l0.length 2 (by simp) (by omega) ⟨y.price, c, q⟩ (.int .i64 q) (by simp [Lev.cells])
  simp only [List.set_append_right _ _ (Nat.le_refl _), Nat.sub_self, List.set_cons_zero] at hset2
  exact hset2
theorem lev_fr {w wr W w7 : World} {l : Value} {g7 i j : Nat} {u u' : Value} (h1 : Fr No w wr) (h2 : Fr No wr W) (h3 : Fr (OwnS l) W w7) (h4 : ∀ g, OwnS l g → w.heap.size ≤ g) (h5 : w.heap.size ≤ g7) :
    Fr No w ((w7.setCell ⟨g7, i, none⟩ u).drew.setCell ⟨g7, j, none⟩ u') :=
  (((h1.quiet h2).trans h3 (fun k hk e => by have := h4 k e; omega)).setAt g7 (.inl h5) i u).drew.setAt g7 (.inl h5) j u'
theorem own_new {w7 : World} {base g7 n7 c7 : Nat} {lv : List Lev} (h : Ls w7 base (.slice (some ⟨g7, 0, none⟩) n7 c7) lv) : base ≤ g7 := (h.lt g7 rfl).1

set_option maxHeartbeats 8000000 in
set_option maxRecDepth 20000 in
theorem levels_any (b o : Nat) (v : Value) (M : List Ord) (most : Int) (w : World) (hs : SideAt w b o v M) (hn : M.length ≤ 1000) (hop : ∀ o ∈ M, 0 ≤ o.opn ∧ o.opn ≤ 1000000) :
    Calls Tryz.prog 151 #[.pointer (some ⟨b, o, none⟩), .int .i64 most] w fun e w' => ∃ r, e = .returned r ∧ Ls w' w.heap.size r (cutTo most (M.foldl addLev [])) ∧ Fr No w w' := by
  obtain ⟨a, cap, rfl⟩ := hs.form
  have hL := hs.cel
  have HO := hide hs.own
  have HOP := hide hop
  obtain ⟨G, hG⟩ : ∃ G, G = cutTo most (M.foldl addLev []) := ⟨_, rfl⟩
  rw [← hG]
  have HG := hide hG
  clear hs hop hG
  generalize hnn : M.length = n at *
  have Hn := hide hnn
  clear hnn
  go_enter Tryz.func151, Tryz.ntmps151
  go_wp2
  go_loopw [5, 14] (fun l c wr => ∃ k : Nat, k ≤ n ∧ c = .int .i64 k ∧ Ls wr w.heap.size l (lvTo M k) ∧ Fr No w wr ∧ (0 ≤ most → ((lvTo M k).length : Int) ≤ most)) (fun _ c _ => n - (intOf c).toNat)
  case atStart => exact ⟨0, Nat.zero_le _, rfl, World.ownsRow_nil _ _ _ _, Fr.refl _ _, fun h => by simpa [lvTo] using h⟩
  case round =>
    obtain ⟨k, hk, rfl, hls, hfr, hle⟩ := hrel
    by_cases hlt : k < n
    · have hlt' : k < M.length := by rw [unhide Hn]; exact hlt
      obtain ⟨g, rfl, hg, _, c0, c1, c2, c3, c4, c5, _⟩ := os_at (own_fr (unhide HO) hfr (fun _ _ => id)) k hlt'
      have hok := lvTo_ok (unhide HOP) (k := k) (by omega)
      have hxo := unhide HOP _ (List.getElem_mem hlt')
      have HS := hide (lvTo_succ hlt')
      have HCUT : Hid (∀ e, addLev (lvTo M k) M[k] = lvTo M k ++ [e] → cutTo ((lvTo M k).length : Int) (M.foldl addLev []) = lvTo M k) := fun e he => lvTo_cut hlt' he
      have hlv : (lvTo M k).length ≤ 1000 := by have := hok.1; omega
      obtain ⟨al, cl, rfl, hcl, hal, _⟩ := own_form hls
      have hsz := hfr.size
      have HA := hide (And.intro hls (And.intro hfr (And.intro hle hok)))
      clear hls hfr hle hok
      generalize hx : M[k] = x at *
      generalize hl : lvTo M k = lv at *
      clear hx hl
      rcases List.eq_nil_or_concat lv with hnil | ⟨l0, y, hlv0⟩
      · subst hnil
        by_cases hm : most = 0
        · subst hm
          go_wp2
          go_quiet (fail)
          go_wp2
          go_ret
          exact ⟨_, rfl, by rw [unhide HG]; have := unhide HCUT ⟨x.price, x.opn, 1⟩ rfl; rw [show ((([] : List Lev).length : Nat) : Int) = 0 from rfl] at this; rw [this]; exact own_fr (S := No) (unhide HA).1 (by repeat (first | exact Fr.refl _ _ | refine Fr.alloc ?_ _ | refine Fr.drewN ?_ _ | refine Fr.drew ?_)) (fun _ _ => id), by repeat (first | exact (unhide HA).2.1 | refine Fr.alloc ?_ _ | refine Fr.drewN ?_ _ | refine Fr.drew ?_)⟩
        · have hmb : ((0 : Int) == most) = false := by simp; omega
          have hN : wr.heap.size < wr.heap.size + 1 := by omega
          clear hm
          go_wp2
          go_quiet (fail)
          generalize hW : World.drewN (World.alloc wr _) _ = W
          have hWf : Fr No wr W := by rw [← hW]; exact ((Fr.refl _ _).alloc _).drewN _
          have hWx : W.heap[wr.heap.size]? = some (.cells x.cells.toArray 95 (0, 0)) := by rw [← hW]; exact heap_alloc_new wr _
          clear hW
          obtain ⟨x0, x1, x2, x3, x4, x5, _⟩ := box6 hWx
          have hNW := lt_of_heap hWx
          have HW := hide (And.intro hWf hWx)
          clear hWf hWx
          go_wp2_with (at_builtin; refine app_lev rfl (.tmp 37) (.tmp 41) rfl w.heap.size _ [] (own_fr (S := No) (unhide HA).1 ((unhide HW).1.alloc _) (fun _ _ => id)) rfl ⟨W.heap.size, 0, none⟩ 1 1 [⟨x.price, 0, 0⟩] rfl rfl (by simp) (new_cells W (Lev.cells ⟨x.price, 0, 0⟩) _) (by simp) (by have := (unhide HW).1.size; simp; omega) ?_; intro g7 c7 w7 hown7 hfr7 hat7 hlt7; obtain ⟨hfa, hx7, hne, d1, d2, hz⟩ := lev_new (unhide HA).1 (unhide HW).2 hown7 hfr7 hat7; obtain ⟨t0, t1, t2, t3, t4, t5, _⟩ := box6 hx7; have hz1 := hz (([] : List Lev).length * 3 + 1); have hz2 := hz (([] : List Lev).length * 3 + 2); simp only [List.length_nil, Nat.zero_mul, Nat.zero_add] at d1 d2 hz1 hz2; have hNw7 := lt_of_heap hx7; have HX := hide (And.intro hown7 (And.intro hfa hat7)); clear hown7 hfr7 hat7 hfa hx7 hz)
          go_region
          all_goals
            go_wp2
            go_roundw
            case rel =>
              obtain ⟨hown7, hfa, hat7⟩ := unhide HX
              have hls := (unhide HA).1
              refine ⟨k + 1, by omega, by go_num, ?_, lev_fr (unhide HA).2.1 (unhide HW).1 hfa (fun g hg => (hls.lt g hg).1) (own_new hown7), fun h => ?_⟩
              · rw [unhide HS]
                exact lev_add (l0 := []) hown7 x.opn 1
              · rw [unhide HS]
                have : ((addLev [] x).length : Int) = 1 := rfl
                have := hmb
                simp at this
                omega
            case measure => simp [intOf]; omega
      · have hlv' : lv = l0 ++ [y] := by simpa using hlv0
        subst hlv'
        clear hlv0
        have hle0 : l0.length + 1 ≤ 1000 := by simpa using hlv
        have hy := (unhide HA).2.2.2.2 y (by simp)
        obtain ⟨gl, rfl, hgl2, _, hd0, hd1, hd2, hfzl⟩ := ls_at (unhide HA).1 l0.length (by simp)
        simp only [List.getElem_append_right (Nat.le_refl _), Nat.sub_self, List.getElem_cons_zero] at hd0 hd1 hd2
        have hlen : (l0 ++ [y]).length = l0.length + 1 := by simp
        rw [hlen]
        rw [hlen] at hcl
        by_cases hpe : (y.price == x.price) = true
        · have HAD : Hid (addLev (l0 ++ [y]) x = l0 ++ [⟨y.price, y.count + x.opn, y.orders + 1⟩]) := addLev_same (by simpa using hpe)
          have hcy : 0 ≤ y.count ∧ y.count ≤ 1000000000 := by omega
          have hoy : 0 ≤ y.orders ∧ y.orders ≤ 1000 := by omega
          have hpn : (y.price != x.price) = false := by simpa using hpe
          have HLEN := hide hlen
          have HSL : Hid (Value.slice (some ⟨gl, 0, none⟩) (l0 ++ [y]).length cl = .slice (some ⟨gl, 0, none⟩) (l0.length + 1) cl) := by show _ = _; rw [hlen]
          clear hy hlen
          go_wp2
          generalize hW : World.alloc wr _ = W
          have hWf : Fr No wr W := by rw [← hW]; exact (Fr.refl _ _).alloc _
          have hWx : W.heap[wr.heap.size]? = some (.cells x.cells.toArray 95 (0, 0)) := by rw [← hW]; exact heap_alloc_new wr _
          clear hW
          obtain ⟨x0, x1, x2, x3, x4, x5, _⟩ := box6 hWx
          have hNW := lt_of_heap hWx
          have e0 := (hWf.below.cell (p := ⟨gl, l0.length * 3, none⟩) hgl2).trans hd0
          have e1 := (hWf.below.cell (p := ⟨gl, l0.length * 3 + 1, none⟩) hgl2).trans hd1
          have e2 := (hWf.below.cell (p := ⟨gl, l0.length * 3 + 2, none⟩) hgl2).trans hd2
          have hfz := fun k => World.frozen?_of_block (a := ⟨gl, k, none⟩) (hWf.block gl hgl2 id)
          have hf1 := (hfz (l0.length * 3 + 1)).trans (hfzl _)
          have hf2 := (hfz (l0.length * 3 + 2)).trans (hfzl _)
          have HW := hide (And.intro hWf hWx)
          have hln0 : decide ((l0.length : Int) < 0) = false := by simp
          have hlna : (0 : Int) ≤ (l0.length : Int) := by omega
          have hglN : gl ≠ wr.heap.size := by omega
          have hglW : gl < W.heap.size := by omega
          clear hWf hWx hfz hfzl hd0 hd1 hd2
          go_quiet (fail)
          go_wp2
          go_region
          all_goals
            go_wp2
            go_roundw
            case rel =>
              have hls := own_fr (unhide HA).1 (unhide HW).1 (fun _ _ => id)
              rw [unhide HSL] at hls
              have hgb : w.heap.size ≤ gl := ((unhide HA).1.lt gl rfl).1
              refine ⟨k + 1, by omega, by go_num, ?_, ((((unhide HA).2.1.quiet (unhide HW).1).drewN _).setAt gl (.inl hgb) _ _).setAt gl (.inl hgb) _ _, fun h => ?_⟩
              · rw [unhide HS, unhide HAD]
                exact lev_add0 (own_fr (S := No) hls ((Fr.refl _ _).drewN _) (fun _ _ => id)) _ _
              · rw [unhide HS, unhide HAD]
                have := (unhide HA).2.2.1 h
                simpa using this
            case measure => simp [intOf]; omega
        · replace hpe : (y.price == x.price) = false := by simpa using hpe
          have HAD : Hid (addLev (l0 ++ [y]) x = l0 ++ [y] ++ [⟨x.price, x.opn, 1⟩]) := addLev_new (by simpa using hpe)
          have hpn : (y.price != x.price) = true := by simpa using hpe
          have HLEN := hide hlen
          have HSL : Hid (Value.slice (some ⟨gl, 0, none⟩) (l0 ++ [y]).length cl = .slice (some ⟨gl, 0, none⟩) (l0.length + 1) cl) := by show _ = _; rw [hlen]
          clear hy hlen
          go_wp2
          generalize hW : World.alloc wr _ = W
          have hWf : Fr No wr W := by rw [← hW]; exact (Fr.refl _ _).alloc _
          have hWx : W.heap[wr.heap.size]? = some (.cells x.cells.toArray 95 (0, 0)) := by rw [← hW]; exact heap_alloc_new wr _
          clear hW
          obtain ⟨x0, x1, x2, x3, x4, x5, _⟩ := box6 hWx
          have hNW := lt_of_heap hWx
          have e0 := (hWf.below.cell (p := ⟨gl, l0.length * 3, none⟩) hgl2).trans hd0
          have e1 := (hWf.below.cell (p := ⟨gl, l0.length * 3 + 1, none⟩) hgl2).trans hd1
          have e2 := (hWf.below.cell (p := ⟨gl, l0.length * 3 + 2, none⟩) hgl2).trans hd2
          have hfz := fun k => World.frozen?_of_block (a := ⟨gl, k, none⟩) (hWf.block gl hgl2 id)
          have hf1 := (hfz (l0.length * 3 + 1)).trans (hfzl _)
          have hf2 := (hfz (l0.length * 3 + 2)).trans (hfzl _)
          have HW := hide (And.intro hWf hWx)
          have hln0 : decide ((l0.length : Int) < 0) = false := by simp
          have hlna : (0 : Int) ≤ (l0.length : Int) := by omega
          have hglN : gl ≠ wr.heap.size := by omega
          have hglW : gl < W.heap.size := by omega
          clear hWf hWx hfz hfzl hd0 hd1 hd2
          go_quiet (fail)
          generalize hV : World.drewN W _ = V
          have hVf : Fr No W V := by rw [← hV]; exact (Fr.refl _ _).drewN _
          clear hV
          have hVx := hVf.heap (unhide HW).2 id
          obtain ⟨v0, v1, v2, v3, v4, v5, _⟩ := box6 hVx
          have hVs := hVf.size
          have hls := own_fr (own_fr (unhide HA).1 (unhide HW).1 (fun _ _ => id)) hVf (fun _ _ => id)
          rw [unhide HSL] at hls
          have HV := hide (And.intro ((unhide HW).1.quiet hVf) (And.intro hVx hls))
          clear hVf hVx hls x0 x1 x2 x3 x4 x5
          by_cases hm : most = (l0.length : Int) + 1
          · have hmb : (((l0.length : Int) + 1) == most) = true := by simp [hm]
            have HM := hide hm
            clear hm
            go_wp2
            go_ret
            refine ⟨_, rfl, ?_, (unhide HA).2.1.quiet (unhide HV).1⟩
            have := unhide HCUT _ (unhide HAD)
            rw [unhide HLEN] at this
            rw [unhide HG, unhide HM]
            push_cast at this
            rw [this]
            exact (unhide HV).2.2
          · have hmb : (((l0.length : Int) + 1) == most) = false := by simp; omega
            have HM := hide hm
            clear hm
            go_wp2_with (at_builtin; refine app_lev rfl (.tmp 37) (.tmp 41) rfl w.heap.size _ (l0 ++ [y]) (own_fr (S := No) (unhide HV).2.2 ((Fr.refl _ _).alloc _) (fun _ _ => id)) rfl ⟨V.heap.size, 0, none⟩ 1 1 [⟨x.price, 0, 0⟩] rfl rfl (by simp) (new_cells V (Lev.cells ⟨x.price, 0, 0⟩) _) (by simp; omega) (by have := (unhide HV).1.size; simp; omega) ?_; intro g7 c7 w7 hown7 hfr7 hat7 hlt7; obtain ⟨hfa, hx7, hne, d1, d2, hz⟩ := lev_new (unhide HA).1 (unhide HV).2.1 hown7 hfr7 hat7; obtain ⟨t0, t1, t2, t3, t4, t5, _⟩ := box6 hx7; have hz1 := hz ((l0 ++ [y]).length * 3 + 1); have hz2 := hz ((l0 ++ [y]).length * 3 + 2); rw [unhide HLEN] at d1 d2 hz1 hz2; have hNw7 := lt_of_heap hx7; have HX := hide (And.intro hown7 (And.intro hfa hat7)); clear hown7 hfr7 hat7 hfa hx7 hz)
            (try rw [unhide HLEN])
            have hq0 : (0 : Int) ≤ (l0.length : Int) + 1 := by omega
            have hqn : ((l0.length : Int) + 1).toNat = l0.length + 1 := by omega
            have hqq : (l0.length : Int) + 1 < (l0.length : Int) + 1 + 1 := by omega
            go_region
            all_goals
              go_wp2
              go_roundw
              case rel =>
                obtain ⟨hown7, hfa, hat7⟩ := unhide HX
                have hls := (unhide HA).1
                refine ⟨k + 1, by omega, by go_num, ?_, lev_fr (unhide HA).2.1 (unhide HV).1 hfa (fun g hg => (hls.lt g hg).1) (own_new hown7), fun h => ?_⟩
                · rw [unhide HS, unhide HAD]
                  have := own_fr (S := No) (lev_add0 (l0 := l0 ++ [y]) hown7 x.opn 1) ((Fr.refl _ _).drew) (fun _ _ => id)
                  rw [unhide HLEN] at this
                  exact this
                · rw [unhide HS, unhide HAD]
                  have h1 := (unhide HA).2.2.1 h
                  have h2 := unhide HM
                  rw [unhide HLEN] at h1
                  simp
                  omega
              case measure => simp [intOf]; omega
    · have hkn : k = n := by omega
      subst hkn
      have hE : G = lvTo M k := by
        have := lvTo_end (M := M) (most := most) (by rw [unhide Hn]; exact hle)
        rw [unhide Hn] at this
        rw [unhide HG, this]
      rw [← hE] at hls
      clear hE hle
      go_wp2
      go_ret
      exact ⟨_, rfl, hls, hfr⟩
end Go.Proofs.YtigpgnjgmaoejaaGreat

/- Contract of a book's Depth. Conditions: the book lies in memory, each order open by at most a million. -/
namespace Go.Proofs.YtigpgnjgmaoejaaGreat
open Go.RowKit

set_option maxHeartbeats 1000000 in
theorem bDepth_buy (b bx : Nat) (tr : Bool) (td : Int) (v : Nat → Value) (M : Nat → List Ord) (most : Int) (w : World) (h : PB w b bx tr td v M) (hop : ∀ o ∈ M 0, 0 ≤ o.opn ∧ o.opn ≤ 1000000) :
    Calls Tryz.prog 124 #[.pointer (some ⟨b, 0, none⟩), .int .i64 1, .int .i64 most] w fun e w' => ∃ r, e = .returned r ∧ Ls w' w.heap.size r (cutTo most ((M 0).foldl addLev [])) ∧ Fr No w w' := by
  have HB := hide h
  have HOP := hide hop
  clear h hop
  go_enter Tryz.func124, Tryz.ntmps124
  go_wp2_with (first
    | (go_at_call 55; refine (bSide_buy b _).mono ?_; rintro e w2 ⟨rfl, rfl⟩)
    | (go_at_call 151; refine (levels_any b 3 (v 0) (M 0) most _ (unhide HB).side0.at_ ((unhide HB).len 0 (by omega)) (unhide HOP)).mono ?_; rintro e w3 ⟨r3, rfl, hl3, hf3⟩))
  go_ret
  exact ⟨_, rfl, hl3, hf3⟩
set_option maxHeartbeats 1000000 in
theorem bDepth_sell (b bx : Nat) (tr : Bool) (td : Int) (v : Nat → Value) (M : Nat → List Ord) (most : Int) (w : World) (h : PB w b bx tr td v M) (hop : ∀ o ∈ M 1, 0 ≤ o.opn ∧ o.opn ≤ 1000000) :
    Calls Tryz.prog 124 #[.pointer (some ⟨b, 0, none⟩), .int .i64 2, .int .i64 most] w fun e w' => ∃ r, e = .returned r ∧ Ls w' w.heap.size r (cutTo most ((M 1).foldl addLev [])) ∧ Fr No w w' := by
  have HB := hide h
  have HOP := hide hop
  clear h hop
  go_enter Tryz.func124, Tryz.ntmps124
  go_wp2_with (first
    | (go_at_call 55; refine (bSide_sell b _).mono ?_; rintro e w2 ⟨rfl, rfl⟩)
    | (go_at_call 151; refine (levels_any b 5 (v 1) (M 1) most _ (unhide HB).side1.at_ ((unhide HB).len 1 (by omega)) (unhide HOP)).mono ?_; rintro e w3 ⟨r3, rfl, hl3, hf3⟩))
  go_ret
  exact ⟨_, rfl, hl3, hf3⟩
theorem bDepth_any (b bx : Nat) (tr : Bool) (td : Int) (v : Nat → Value) (M : Nat → List Ord) (j : Nat) (hj : j < 2) (sd most : Int) (hsd : sd = (j : Int) + 1) (w : World) (h : PB w b bx tr td v M) (hop : ∀ o ∈ M j, 0 ≤ o.opn ∧ o.opn ≤ 1000000) :
    Calls Tryz.prog 124 #[.pointer (some ⟨b, 0, none⟩), .int .i64 sd, .int .i64 most] w fun e w' => ∃ r, e = .returned r ∧ Ls w' w.heap.size r (cutTo most ((M j).foldl addLev [])) ∧ Fr No w w' := by
  match j, hj with
  | 0, _ => subst hsd; exact bDepth_buy b bx tr td v M most w h hop
  | 1, _ => subst hsd; exact bDepth_sell b bx tr td v M most w h hop
end Go.Proofs.YtigpgnjgmaoejaaGreat

/- Contract of a book's State. Conditions: the book lies in memory, at most 1000 orders on a side. -/
namespace Go.Proofs.YtigpgnjgmaoejaaGreat
open Go.RowKit

set_option maxHeartbeats 4000000 in
set_option maxRecDepth 20000 in
theorem bState_any (b bx : Nat) (tr : Bool) (td : Int) (v : Nat → Value) (M : Nat → List Ord) (w : World) (h : PB w b bx tr td v M) :
    Calls Tryz.prog 29 #[.pointer (some ⟨b, 0, none⟩)] w fun e w' => e = .returned (stateV (if tr = true then 2 else 1) (M 0).length (M 1).length td) ∧ Fr No w w' := by
  obtain ⟨a0, cap0, hv0⟩ := h.side0.at_.form
  obtain ⟨a1, cap1, hv1⟩ := h.side1.at_.form
  obtain ⟨hp, ht, hc0, hc1⟩ := h.cells
  rw [hv0] at hc0
  rw [hv1] at hc1
  have hb := h.lt
  clear h hv0 hv1
  generalize (M 0).length = n0 at *
  generalize (M 1).length = n1 at *
  generalize (if tr = true then (2 : Int) else 1) = ph at *
  go_enter Tryz.func29, Tryz.ntmps29
  go_wp2
  go_region_held3 (fun w' : World => w'.cell? ⟨b, 0, none⟩ = some (.int .i64 ph) ∧ w'.cell? ⟨b, 1, none⟩ = some (.int .i64 td) ∧ w'.cell? ⟨b, 3, none⟩ = some (.slice a0 n0 cap0) ∧ w'.cell? ⟨b, 5, none⟩ = some (.slice a1 n1 cap1)) (go_keep)
    (first | (go_at_call 55; refine (bSide_any b _ (by first | exact .inl rfl | exact .inr rfl) _).mono ?_; rintro e w2 ⟨rfl, rfl⟩; first | rw [show sAt 1 = 3 from rfl] | rw [show sAt 2 = 5 from rfl]))
  all_goals
    go_wp2
    refine bodyPost_ret (v := stateV ph n0 n1 td) (by simp [results, Tryz.results29, go_sem, stateV]) rfl ⟨rfl, ?_⟩
    repeat (first | exact Fr.refl _ _ | refine Fr.alloc ?_ _ | refine Fr.drew ?_ | refine Fr.setAt ?_ _ (.inl (by omega)) _ _)

end Go.Proofs.YtigpgnjgmaoejaaGreat
