/- Contract of the document's comes (New) in books that gather, its end: a full book, an order that comes to rest. Conditions: the pit lies in memory, fewer than 100000 orders rest, no book trades. -/
import Derived.Test.YtigpgnjgmaoejaaGreatRefFG
namespace Go.Proofs.YtigpgnjgmaoejaaGreat
open Go.RowKit

theorem restN_le (L : List Ord) (b s : Int) : restN L b s ≤ L.length := List.length_filter_le _ _

theorem box8 {W : World} {b : Nat} {T : TypeId} {x0 x1 x2 x3 x4 x5 x6 x7 : Value} (h : W.heap[b]? = some (.cells #[x0, x1, x2, x3, x4, x5, x6, x7] T (0, 0))) :
    W.cell? ⟨b, 0, none⟩ = some x0 ∧ W.cell? ⟨b, 1, none⟩ = some x1 ∧ W.cell? ⟨b, 2, none⟩ = some x2 ∧ W.cell? ⟨b, 3, none⟩ = some x3 ∧ W.cell? ⟨b, 4, none⟩ = some x4 ∧ W.cell? ⟨b, 5, none⟩ = some x5 ∧ W.cell? ⟨b, 6, none⟩ = some x6 ∧ W.cell? ⟨b, 7, none⟩ = some x7 ∧ ∀ k, W.frozen? ⟨b, k, none⟩ = false :=
  ⟨cell_heap h 0, cell_heap h 1, cell_heap h 2, cell_heap h 3, cell_heap h 4, cell_heap h 5, cell_heap h 6, cell_heap h 7, frozen_heap h⟩

theorem heap_newAt {b : Nat} (w : World) (o : Obj) (h : b = w.heap.size) : (w.alloc o).heap[b]? = some o := by subst h; exact heap_alloc_new w o

/-- Behind a piece that only made memory of its own. -/
theorem RefOut.after {w w1 w' : World} {bp : Nat} {v v' r : Value} {s' : Ref} {E : List Ev} (hf : Fr No w w1) (h : RefOut w1 w' bp v v' s' r E) : RefOut w w' bp v v' s' r E :=
  ⟨h.ref, hf.of_no.same h.fr, fun g hg => (h.new g hg).imp id (fun h => Nat.le_trans hf.size h), own_base h.evs (fun g hg => Nat.le_trans hf.size (h.evs.lt g hg).1), h.apart⟩

def RestPost (w w' : World) (bp : Nat) (v v' : Value) (s : Ref) (c : Cmd) (r : Value) : Prop :=
  if 200 ≤ restN s.L c.book 1 + restN s.L c.book 2 then v' = v ∧ RefOut w w' bp v v s r [refusedE c.id 5]
  else RefOut w w' bp v v' { s with L := s.L ++ [⟨c.id, c.trader, c.book, c.side, c.price, c.count⟩] } r [takenE c.id c.count, restsE c.id c.price c.count]

set_option maxRecDepth 100000 in
set_option maxHeartbeats 4000000 in
theorem comes_rest (bp : Nat) (v : Value) (s : Ref) (c : Cmd) (w : World) (hr : RefAt w bp v s) (hn : s.L.length < 100000) (hok : newOk c = true) (hk : findO s.L c.id = none)
    (htr : ∀ k, k < 9 → s.tr k = false) (hkind : c.kind = 1) :
    Calls Tryz.prog 58 #[.pointer (some ⟨bp, 0, none⟩), c.val] w fun e w' => ∃ r v', e = .returned r ∧ RestPost w w' bp v v' s c r := by
  have HR := hide hr
  have hbp := hr.lt
  obtain ⟨h1, h2, h3, h4, h5, h5', h6, h7⟩ := newOk_parts hok
  obtain ⟨cw, cid, ct, cb, cs, ck, cp, cc⟩ := c
  unfold Cmd.val
  simp only at *
  subst hkind
  have HK := hide hk
  obtain ⟨hb1, hb8⟩ := inB_true h3
  obtain ⟨nb, rfl⟩ := Int.eq_ofNat_of_zero_le (by omega : 0 ≤ cb)
  have hT := hr.cellTr nb (by omega)
  have htn := htr nb (by omega)
  rw [htn] at hT
  replace h6 := h6.resolve_left (by omega)
  obtain ⟨hp1, hp2⟩ := inB_true h6
  obtain ⟨hc1, hc2⟩ := inB_true h7
  have HT := hide htn
  have hs1 : 1 ≤ cs := by omega
  have hs2 : cs ≤ 2 := by omega
  clear hk hok hr htr htn
  have hr1 := restN_le s.L nb 1
  have hr2 := restN_le s.L nb 2
  rcases h4 with rfl | rfl
  all_goals
    go_enter Tryz.func58, Tryz.ntmps58
    go_wp2_with (first
      | (go_at_call 57; refine (in_any _ _ _ _).mono ?_; rintro e w1 ⟨rfl, rfl⟩)
      | (go_at_call 113; refine (find_any bp v s _ _ ((unhide HR).no ((Fr.refl _ _).alloc _)) (by omega)).mono ?_; rintro e w1 ⟨rfl, rfl⟩; rw [unhide HK, show enc none = -1 from rfl]))
    go_quiet (fail)
    go_wp2_with fail
    generalize hW : World.alloc (World.drewN _ nq) _ = W
    have hWf : Fr No w W := by rw [← hW]; exact (((Fr.refl _ _).alloc _).drewN _).alloc _
    have HWS : Hid (W.heap.size = w.heap.size + 2) := by show _ = _; rw [← hW]; simp
    have hWc := (show W.heap[w.heap.size]? = some (.cells #[.int .i64 cw, .int .i64 cid, .int .i64 ct, .int .i64 nb, .int .i64 _, .int .i64 1, .int .i64 cp, .int .i64 cc] 31 (0, 0)) from by rw [← hW]; exact (((Fr.refl No _).drewN _).alloc _).heap (heap_alloc_new w _) id)
    have hWx := (show W.heap[w.heap.size + 1]? = some (.cells #[.int .i64 cid, .int .i64 ct, .int .i64 nb, .int .i64 _, .int .i64 cp, .int .i64 cc] 95 (0, 0)) from by rw [← hW]; exact heap_newAt _ _ (by simp))
    clear hW
    refine (crosses_any bp v s ⟨cid, ct, nb, _, cp, cc⟩ _ ((unhide HR).no hWf) (by omega) (by simp) (by simp)).mono ?_
    rintro e w1 ⟨rfl, hf1⟩
    have hf2 := hWf.quiet hf1
    have hsz1 := hf1.size
    have hWc1 := hf1.heap hWc id
    have hWx1 := hf1.heap hWx id
    clear hWc hWx
    obtain ⟨hy0, hy1, hy2, hy3, hy4, hy5, hy6, hy7, _⟩ := box8 hWc1
    clear hT
    go_wp2
    go_quiet (fail)
    go_wp2
    generalize hW3 : World.drewN w1 nq = w3
    have hf3 : Fr No w w3 := by rw [← hW3]; exact hf2.drewN _
    obtain ⟨hz0, hz1, hz2, hz3, hz4, hz5, hz6, hz7, _⟩ := box8 (show w3.heap[w.heap.size]? = _ from by rw [← hW3]; exact hWc1)
    obtain ⟨hx0, hx1, hx2, hx3, hx4, hx5, _⟩ := box6 (show w3.heap[w.heap.size + 1]? = _ from by rw [← hW3]; exact hWx1)
    have hr4 := (unhide HR).no hf3
    have HR4 := hide hr4
    have HF2 := hide hf3
    clear hWf hWc1 hWx1 hf1 hf2 hf3 hr4 hW3 hy0 hy1 hy2 hy3 hy4 hy5 hy6 hy7
    by_cases hfull : 200 ≤ restN s.L (nb : Int) 1 + restN s.L (nb : Int) 2
    · have hfi : (200 : Int) ≤ (restN s.L (nb : Int) 1 : Int) + (restN s.L (nb : Int) 2 : Int) := by omega
      have HFU := hide hfull
      clear hfull
      go_quiet ((go_at_call 116; exact Calls.quiet_of_same (resting_any bp v s _ _ _ ((unhide HR4).no (by repeat (first | exact Fr.refl _ _ | refine Fr.drewN ?_ _ | refine Fr.drew ?_))) (by omega))))
      go_wp2_with (go_at_call 60; refine (refused_any _ _ _).mono ?_; rintro e w5 ⟨r, rfl, he, hf⟩)
      go_ret
      refine ⟨_, v, rfl, ?_⟩
      unfold RestPost
      rw [if_pos (unhide HFU)]
      exact ⟨rfl, RefOut.after (by repeat (first | exact unhide HF2 | refine Fr.drewN ?_ _ | refine Fr.drew ?_)) (RefOut.said ((unhide HR4).no (by repeat (first | exact Fr.refl _ _ | refine Fr.drewN ?_ _ | refine Fr.drew ?_))) he hf)⟩
    · have hfi : decide ((200 : Int) ≤ (restN s.L (nb : Int) 1 : Int) + (restN s.L (nb : Int) 2 : Int)) = false := by simp; omega
      have HFU := hide hfull
      clear hfull
      go_quiet ((go_at_call 116; exact Calls.quiet_of_same (resting_any bp v s _ _ _ ((unhide HR4).no (by repeat (first | exact Fr.refl _ _ | refine Fr.drewN ?_ _ | refine Fr.drew ?_))) (by omega))))
      go_wp2_with fail
      refine (takes_gather bp v s ⟨cid, ct, nb, _, cp, cc⟩ _ ((unhide HR4).no (by repeat (first | exact Fr.refl _ _ | refine Fr.drewN ?_ _ | refine Fr.drew ?_))) hn nb rfl (by omega) (by omega) (unhide HT) hp1 hc1).mono ?_
      rintro e w5 ⟨r, v5, rfl, ho5⟩
      go_wp2
      go_ret
      refine ⟨_, v5, rfl, ?_⟩
      unfold RestPost
      rw [if_neg (unhide HFU)]
      exact RefOut.after (by repeat (first | exact unhide HF2 | refine Fr.drewN ?_ _ | refine Fr.drew ?_)) ho5
end Go.Proofs.YtigpgnjgmaoejaaGreat
