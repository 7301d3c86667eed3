/- The document's comes for an order of kind 2 whose numbers may be, whose number is new and whose book is in the phase for it. Conditions: the pit is good. -/
import Derived.Test.YtigpgnjgmaoejaaGreatRefS
import Derived.Deep.CutRange
namespace Go.Proofs.YtigpgnjgmaoejaaGreat
open Go.RowKit

set_option maxRecDepth 100000 in
set_option maxHeartbeats 8000000 in
theorem comes_k2 (bp : Nat) (v : Value) (s : Ref) (cw cid ct cs cp cc : Int) (nb : Nat) (w : World) (hr : RefAt w bp v s) (hg : Good s) (hok : newOk ⟨cw, cid, ct, nb, cs, 2, cp, cc⟩ = true) (hk : findO s.L cid = none) (htr : s.tr nb = true) (hmay : MayCome s ⟨cid, ct, nb, cs, 0, cc⟩ 2) :
    Calls Tryz.prog 58 #[.pointer (some ⟨bp, 0, none⟩), (⟨cw, cid, ct, nb, cs, 2, cp, cc⟩ : Cmd).val] w (TPost w bp v (tIn s ⟨cid, ct, nb, cs, cp, cc⟩ 2)) := by
  have HR := hide hr
  have HG := hide hg
  have hn := hg.len
  have hbp := hr.lt
  obtain ⟨h1, h2, h3, h4, h5, h5', h6, h7⟩ := newOk_parts hok
  unfold Cmd.val
  simp only at *
  have HK := hide hk
  obtain ⟨hb1, hb8⟩ := inB_true h3
  have hb8n : nb < 9 := by omega
  have hT := hr.cellTr nb (by omega)
  rw [htr] at hT
  clear h6
  skip
  obtain ⟨hc1, hc2⟩ := inB_true h7
  have hr1 := restN_le s.L nb 1
  have hr2 := restN_le s.L nb 2
  have HMAY := hide hmay
  clear hk hok hr hg hmay htr
  rcases h4 with rfl | rfl
  · go_enter Tryz.func58, Tryz.ntmps58
    go_wp2_with (first
      | (go_at_call 57; refine (in_any _ _ _ _).mono ?_; rintro e w1 ⟨rfl, rfl⟩)
      | (go_at_call 113; refine (find_any bp v s _ _ ((unhide HR).no ((Fr.refl _ _).alloc _)) (by omega)).mono ?_; rintro e w1 ⟨rfl, rfl⟩; rw [unhide HK, show enc none = -1 from rfl]))
    go_quiet (fail)
    go_wp2_with fail
    generalize hW : World.alloc (World.drewN _ nq) _ = W
    have hWf : Fr No w W := by rw [← hW]; exact (((Fr.refl _ _).alloc _).drewN _).alloc _
    have HWS : Hid (W.heap.size = w.heap.size + 2) := by show _ = _; rw [← hW]; simp
    have hWc := (show W.heap[w.heap.size]? = some (.cells #[.int .i64 cw, .int .i64 cid, .int .i64 ct, .int .i64 nb, .int .i64 1, .int .i64 2, .int .i64 cp, .int .i64 cc] 31 (0, 0)) from by rw [← hW]; exact (((Fr.refl No _).drewN _).alloc _).heap (heap_alloc_new w _) id)
    have hWx := (show W.heap[w.heap.size + 1]? = some (.cells #[.int .i64 cid, .int .i64 ct, .int .i64 nb, .int .i64 1, .int .i64 cp, .int .i64 cc] 95 (0, 0)) from by rw [← hW]; exact heap_newAt _ _ (by simp))
    clear hW
    refine (crosses_any bp v s ⟨cid, ct, nb, 1, cp, cc⟩ _ ((unhide HR).no hWf) (by omega) (by simp) (by simp)).mono ?_
    rintro e w1 ⟨rfl, hf1⟩
    have hf2 := hWf.quiet hf1
    have hsz1 := hf1.size
    have hWc1 := hf1.heap hWc id
    have hWx1 := hf1.heap hWx id
    clear hWc hWx
    obtain ⟨hy0, hy1, hy2, hy3, hy4, hy5, hy6, hy7, _⟩ := box8 hWc1
    clear hT
    have h7n : (¬ ((2 : Int) = 5 ∧ crossB s.L ⟨cid, ct, nb, 1, cp, cc⟩ = true ∨ (2 : Int) = 4 ∧ matchedO s.L ⟨cid, ct, nb, 1, cp, cc⟩ < cc)) := fun q => q.elim (fun q => absurd q.1 (by decide)) (fun q => absurd q.1 (by decide))
    have HN7 := hide h7n
    clear h7n
    generalize crossB s.L ⟨cid, ct, nb, 1, cp, cc⟩ = cr
    go_wp2
    go_quiet (fail)
    go_wp2
    generalize hW3 : World.drewN w1 nq = w3
    have hf3 : Fr No w w3 := by rw [← hW3]; exact hf2.drewN _
    have hWc3 := (show w3.heap[w.heap.size]? = w1.heap[w.heap.size]? from by rw [← hW3]; rfl).trans hWc1
    have hWx3 := (show w3.heap[w.heap.size + 1]? = w1.heap[w.heap.size + 1]? from by rw [← hW3]; rfl).trans hWx1
    obtain ⟨hz0, hz1, hz2, hz3, hz4, hz5, hz6, hz7, _⟩ := box8 hWc3
    obtain ⟨hx0, hx1, hx2, hx3, hx4, hx5, hxf⟩ := box6 hWx3
    have hr4 := (unhide HR).no hf3
    have HR4 := hide hr4
    have HF2 := hide hf3
    have hsz3 : w.heap.size + 1 < w3.heap.size := lt_of_heap hWx3
    clear hWf hWc1 hWx1 hf1 hf2 hr4 hW3 hf3 hWc3 hWx3 hy0 hy1 hy2 hy3 hy4 hy5 hy6 hy7
    have HMC : Hid (MayCome s ⟨cid, ct, nb, 1, 0, cc⟩ 2) := unhide HMAY
    have HTT : Hid (tIn s ⟨cid, ct, nb, 1, cp, cc⟩ 2 = tTakes s ⟨cid, ct, nb, 1, 0, cc⟩ 2) := tIn_A (unhide HN7)
    have hxf4 := hxf 4
    go_quiet (fail)
    go_wp2_with fail
    generalize hW5 : World.setCell _ _ _ = W5
    have hf5 : Fr No w W5 := by
      rw [← hW5]
      exact Fr.setAt (by repeat (first | exact unhide HF2 | refine Fr.drewN ?_ _ | refine Fr.drew ?_)) _ (.inl (by omega)) _ _
    refine (takes_T bp v s ⟨cid, ct, nb, 1, 0, cc⟩ 2 _ ((unhide HR).no hf5) (unhide HG) (unhide HMC) (.inl rfl)).mono ?_
    rintro e w5 ⟨r, v5, rfl, ho5⟩
    go_wp2
    go_ret
    refine ⟨_, v5, rfl, ?_⟩
    rw [unhide HTT]
    exact RefOut.after hf5 ho5
  · go_enter Tryz.func58, Tryz.ntmps58
    go_wp2_with (first
      | (go_at_call 57; refine (in_any _ _ _ _).mono ?_; rintro e w1 ⟨rfl, rfl⟩)
      | (go_at_call 113; refine (find_any bp v s _ _ ((unhide HR).no ((Fr.refl _ _).alloc _)) (by omega)).mono ?_; rintro e w1 ⟨rfl, rfl⟩; rw [unhide HK, show enc none = -1 from rfl]))
    go_quiet (fail)
    go_wp2_with fail
    generalize hW : World.alloc (World.drewN _ nq) _ = W
    have hWf : Fr No w W := by rw [← hW]; exact (((Fr.refl _ _).alloc _).drewN _).alloc _
    have HWS : Hid (W.heap.size = w.heap.size + 2) := by show _ = _; rw [← hW]; simp
    have hWc := (show W.heap[w.heap.size]? = some (.cells #[.int .i64 cw, .int .i64 cid, .int .i64 ct, .int .i64 nb, .int .i64 2, .int .i64 2, .int .i64 cp, .int .i64 cc] 31 (0, 0)) from by rw [← hW]; exact (((Fr.refl No _).drewN _).alloc _).heap (heap_alloc_new w _) id)
    have hWx := (show W.heap[w.heap.size + 1]? = some (.cells #[.int .i64 cid, .int .i64 ct, .int .i64 nb, .int .i64 2, .int .i64 cp, .int .i64 cc] 95 (0, 0)) from by rw [← hW]; exact heap_newAt _ _ (by simp))
    clear hW
    refine (crosses_any bp v s ⟨cid, ct, nb, 2, cp, cc⟩ _ ((unhide HR).no hWf) (by omega) (by simp) (by simp)).mono ?_
    rintro e w1 ⟨rfl, hf1⟩
    have hf2 := hWf.quiet hf1
    have hsz1 := hf1.size
    have hWc1 := hf1.heap hWc id
    have hWx1 := hf1.heap hWx id
    clear hWc hWx
    obtain ⟨hy0, hy1, hy2, hy3, hy4, hy5, hy6, hy7, _⟩ := box8 hWc1
    clear hT
    have h7n : (¬ ((2 : Int) = 5 ∧ crossB s.L ⟨cid, ct, nb, 2, cp, cc⟩ = true ∨ (2 : Int) = 4 ∧ matchedO s.L ⟨cid, ct, nb, 2, cp, cc⟩ < cc)) := fun q => q.elim (fun q => absurd q.1 (by decide)) (fun q => absurd q.1 (by decide))
    have HN7 := hide h7n
    clear h7n
    generalize crossB s.L ⟨cid, ct, nb, 2, cp, cc⟩ = cr
    go_wp2
    go_quiet (fail)
    go_wp2
    generalize hW3 : World.drewN w1 nq = w3
    have hf3 : Fr No w w3 := by rw [← hW3]; exact hf2.drewN _
    have hWc3 := (show w3.heap[w.heap.size]? = w1.heap[w.heap.size]? from by rw [← hW3]; rfl).trans hWc1
    have hWx3 := (show w3.heap[w.heap.size + 1]? = w1.heap[w.heap.size + 1]? from by rw [← hW3]; rfl).trans hWx1
    obtain ⟨hz0, hz1, hz2, hz3, hz4, hz5, hz6, hz7, _⟩ := box8 hWc3
    obtain ⟨hx0, hx1, hx2, hx3, hx4, hx5, hxf⟩ := box6 hWx3
    have hr4 := (unhide HR).no hf3
    have HR4 := hide hr4
    have HF2 := hide hf3
    have hsz3 : w.heap.size + 1 < w3.heap.size := lt_of_heap hWx3
    clear hWf hWc1 hWx1 hf1 hf2 hr4 hW3 hf3 hWc3 hWx3 hy0 hy1 hy2 hy3 hy4 hy5 hy6 hy7
    have HMC : Hid (MayCome s ⟨cid, ct, nb, 2, 0, cc⟩ 2) := unhide HMAY
    have HTT : Hid (tIn s ⟨cid, ct, nb, 2, cp, cc⟩ 2 = tTakes s ⟨cid, ct, nb, 2, 0, cc⟩ 2) := tIn_A (unhide HN7)
    have hxf4 := hxf 4
    go_quiet (fail)
    go_wp2_with fail
    generalize hW5 : World.setCell _ _ _ = W5
    have hf5 : Fr No w W5 := by
      rw [← hW5]
      exact Fr.setAt (by repeat (first | exact unhide HF2 | refine Fr.drewN ?_ _ | refine Fr.drew ?_)) _ (.inl (by omega)) _ _
    refine (takes_T bp v s ⟨cid, ct, nb, 2, 0, cc⟩ 2 _ ((unhide HR).no hf5) (unhide HG) (unhide HMC) (.inl rfl)).mono ?_
    rintro e w5 ⟨r, v5, rfl, ho5⟩
    go_wp2
    go_ret
    refine ⟨_, v5, rfl, ?_⟩
    rw [unhide HTT]
    exact RefOut.after hf5 ho5
end Go.Proofs.YtigpgnjgmaoejaaGreat

/- The document's comes for an order of kind 3 whose numbers may be, whose number is new and whose book is in the phase for it. Conditions: the pit is good. -/
namespace Go.Proofs.YtigpgnjgmaoejaaGreat
open Go.RowKit

set_option maxRecDepth 100000 in
set_option maxHeartbeats 8000000 in
theorem comes_k3 (bp : Nat) (v : Value) (s : Ref) (cw cid ct cs cp cc : Int) (nb : Nat) (w : World) (hr : RefAt w bp v s) (hg : Good s) (hok : newOk ⟨cw, cid, ct, nb, cs, 3, cp, cc⟩ = true) (hk : findO s.L cid = none) (htr : s.tr nb = true) (hmay : MayCome s ⟨cid, ct, nb, cs, cp, cc⟩ 3) :
    Calls Tryz.prog 58 #[.pointer (some ⟨bp, 0, none⟩), (⟨cw, cid, ct, nb, cs, 3, cp, cc⟩ : Cmd).val] w (TPost w bp v (tIn s ⟨cid, ct, nb, cs, cp, cc⟩ 3)) := by
  have HR := hide hr
  have HG := hide hg
  have hn := hg.len
  have hbp := hr.lt
  obtain ⟨h1, h2, h3, h4, h5, h5', h6, h7⟩ := newOk_parts hok
  unfold Cmd.val
  simp only at *
  have HK := hide hk
  obtain ⟨hb1, hb8⟩ := inB_true h3
  have hb8n : nb < 9 := by omega
  have hT := hr.cellTr nb (by omega)
  rw [htr] at hT
  replace h6 := h6.resolve_left (by omega)
  obtain ⟨hp1, hp2⟩ := inB_true h6
  obtain ⟨hc1, hc2⟩ := inB_true h7
  have hr1 := restN_le s.L nb 1
  have hr2 := restN_le s.L nb 2
  have HMAY := hide hmay
  clear hk hok hr hg hmay htr
  rcases h4 with rfl | rfl
  · go_enter Tryz.func58, Tryz.ntmps58
    go_wp2_with (first
      | (go_at_call 57; refine (in_any _ _ _ _).mono ?_; rintro e w1 ⟨rfl, rfl⟩)
      | (go_at_call 113; refine (find_any bp v s _ _ ((unhide HR).no ((Fr.refl _ _).alloc _)) (by omega)).mono ?_; rintro e w1 ⟨rfl, rfl⟩; rw [unhide HK, show enc none = -1 from rfl]))
    go_quiet (fail)
    go_wp2_with fail
    generalize hW : World.alloc (World.drewN _ nq) _ = W
    have hWf : Fr No w W := by rw [← hW]; exact (((Fr.refl _ _).alloc _).drewN _).alloc _
    have HWS : Hid (W.heap.size = w.heap.size + 2) := by show _ = _; rw [← hW]; simp
    have hWc := (show W.heap[w.heap.size]? = some (.cells #[.int .i64 cw, .int .i64 cid, .int .i64 ct, .int .i64 nb, .int .i64 1, .int .i64 3, .int .i64 cp, .int .i64 cc] 31 (0, 0)) from by rw [← hW]; exact (((Fr.refl No _).drewN _).alloc _).heap (heap_alloc_new w _) id)
    have hWx := (show W.heap[w.heap.size + 1]? = some (.cells #[.int .i64 cid, .int .i64 ct, .int .i64 nb, .int .i64 1, .int .i64 cp, .int .i64 cc] 95 (0, 0)) from by rw [← hW]; exact heap_newAt _ _ (by simp))
    clear hW
    refine (crosses_any bp v s ⟨cid, ct, nb, 1, cp, cc⟩ _ ((unhide HR).no hWf) (by omega) (by simp) (by simp)).mono ?_
    rintro e w1 ⟨rfl, hf1⟩
    have hf2 := hWf.quiet hf1
    have hsz1 := hf1.size
    have hWc1 := hf1.heap hWc id
    have hWx1 := hf1.heap hWx id
    clear hWc hWx
    obtain ⟨hy0, hy1, hy2, hy3, hy4, hy5, hy6, hy7, _⟩ := box8 hWc1
    clear hT
    have h7n : (¬ ((3 : Int) = 5 ∧ crossB s.L ⟨cid, ct, nb, 1, cp, cc⟩ = true ∨ (3 : Int) = 4 ∧ matchedO s.L ⟨cid, ct, nb, 1, cp, cc⟩ < cc)) := fun q => q.elim (fun q => absurd q.1 (by decide)) (fun q => absurd q.1 (by decide))
    have HN7 := hide h7n
    clear h7n
    generalize crossB s.L ⟨cid, ct, nb, 1, cp, cc⟩ = cr
    go_wp2
    go_quiet (fail)
    go_wp2
    generalize hW3 : World.drewN w1 nq = w3
    have hf3 : Fr No w w3 := by rw [← hW3]; exact hf2.drewN _
    have hWc3 := (show w3.heap[w.heap.size]? = w1.heap[w.heap.size]? from by rw [← hW3]; rfl).trans hWc1
    have hWx3 := (show w3.heap[w.heap.size + 1]? = w1.heap[w.heap.size + 1]? from by rw [← hW3]; rfl).trans hWx1
    obtain ⟨hz0, hz1, hz2, hz3, hz4, hz5, hz6, hz7, _⟩ := box8 hWc3
    obtain ⟨hx0, hx1, hx2, hx3, hx4, hx5, hxf⟩ := box6 hWx3
    have hr4 := (unhide HR).no hf3
    have HR4 := hide hr4
    have HF2 := hide hf3
    have hsz3 : w.heap.size + 1 < w3.heap.size := lt_of_heap hWx3
    clear hWf hWc1 hWx1 hf1 hf2 hr4 hW3 hf3 hWc3 hWx3 hy0 hy1 hy2 hy3 hy4 hy5 hy6 hy7
    have HMC : Hid (MayCome s ⟨cid, ct, nb, 1, cp, cc⟩ 3) := unhide HMAY
    have HTT : Hid (tIn s ⟨cid, ct, nb, 1, cp, cc⟩ 3 = tTakes s ⟨cid, ct, nb, 1, cp, cc⟩ 3) := tIn_T (unhide HN7) (fun q => q.1.elim (fun q => absurd q (by decide)) (fun q => absurd q (by decide))) (by decide)
    go_quiet (fail)
    go_wp2_with fail
    refine (takes_T bp v s ⟨cid, ct, nb, 1, cp, cc⟩ 3 _ ((unhide HR4).no (by repeat (first | exact Fr.refl _ _ | refine Fr.drewN ?_ _ | refine Fr.drew ?_))) (unhide HG) (unhide HMC) (.inr hp1)).mono ?_
    rintro e w5 ⟨r, v5, rfl, ho5⟩
    go_wp2
    go_ret
    refine ⟨_, v5, rfl, ?_⟩
    rw [unhide HTT]
    exact RefOut.after (by repeat (first | exact unhide HF2 | refine Fr.drewN ?_ _ | refine Fr.drew ?_)) ho5
  · go_enter Tryz.func58, Tryz.ntmps58
    go_wp2_with (first
      | (go_at_call 57; refine (in_any _ _ _ _).mono ?_; rintro e w1 ⟨rfl, rfl⟩)
      | (go_at_call 113; refine (find_any bp v s _ _ ((unhide HR).no ((Fr.refl _ _).alloc _)) (by omega)).mono ?_; rintro e w1 ⟨rfl, rfl⟩; rw [unhide HK, show enc none = -1 from rfl]))
    go_quiet (fail)
    go_wp2_with fail
    generalize hW : World.alloc (World.drewN _ nq) _ = W
    have hWf : Fr No w W := by rw [← hW]; exact (((Fr.refl _ _).alloc _).drewN _).alloc _
    have HWS : Hid (W.heap.size = w.heap.size + 2) := by show _ = _; rw [← hW]; simp
    have hWc := (show W.heap[w.heap.size]? = some (.cells #[.int .i64 cw, .int .i64 cid, .int .i64 ct, .int .i64 nb, .int .i64 2, .int .i64 3, .int .i64 cp, .int .i64 cc] 31 (0, 0)) from by rw [← hW]; exact (((Fr.refl No _).drewN _).alloc _).heap (heap_alloc_new w _) id)
    have hWx := (show W.heap[w.heap.size + 1]? = some (.cells #[.int .i64 cid, .int .i64 ct, .int .i64 nb, .int .i64 2, .int .i64 cp, .int .i64 cc] 95 (0, 0)) from by rw [← hW]; exact heap_newAt _ _ (by simp))
    clear hW
    refine (crosses_any bp v s ⟨cid, ct, nb, 2, cp, cc⟩ _ ((unhide HR).no hWf) (by omega) (by simp) (by simp)).mono ?_
    rintro e w1 ⟨rfl, hf1⟩
    have hf2 := hWf.quiet hf1
    have hsz1 := hf1.size
    have hWc1 := hf1.heap hWc id
    have hWx1 := hf1.heap hWx id
    clear hWc hWx
    obtain ⟨hy0, hy1, hy2, hy3, hy4, hy5, hy6, hy7, _⟩ := box8 hWc1
    clear hT
    have h7n : (¬ ((3 : Int) = 5 ∧ crossB s.L ⟨cid, ct, nb, 2, cp, cc⟩ = true ∨ (3 : Int) = 4 ∧ matchedO s.L ⟨cid, ct, nb, 2, cp, cc⟩ < cc)) := fun q => q.elim (fun q => absurd q.1 (by decide)) (fun q => absurd q.1 (by decide))
    have HN7 := hide h7n
    clear h7n
    generalize crossB s.L ⟨cid, ct, nb, 2, cp, cc⟩ = cr
    go_wp2
    go_quiet (fail)
    go_wp2
    generalize hW3 : World.drewN w1 nq = w3
    have hf3 : Fr No w w3 := by rw [← hW3]; exact hf2.drewN _
    have hWc3 := (show w3.heap[w.heap.size]? = w1.heap[w.heap.size]? from by rw [← hW3]; rfl).trans hWc1
    have hWx3 := (show w3.heap[w.heap.size + 1]? = w1.heap[w.heap.size + 1]? from by rw [← hW3]; rfl).trans hWx1
    obtain ⟨hz0, hz1, hz2, hz3, hz4, hz5, hz6, hz7, _⟩ := box8 hWc3
    obtain ⟨hx0, hx1, hx2, hx3, hx4, hx5, hxf⟩ := box6 hWx3
    have hr4 := (unhide HR).no hf3
    have HR4 := hide hr4
    have HF2 := hide hf3
    have hsz3 : w.heap.size + 1 < w3.heap.size := lt_of_heap hWx3
    clear hWf hWc1 hWx1 hf1 hf2 hr4 hW3 hf3 hWc3 hWx3 hy0 hy1 hy2 hy3 hy4 hy5 hy6 hy7
    have HMC : Hid (MayCome s ⟨cid, ct, nb, 2, cp, cc⟩ 3) := unhide HMAY
    have HTT : Hid (tIn s ⟨cid, ct, nb, 2, cp, cc⟩ 3 = tTakes s ⟨cid, ct, nb, 2, cp, cc⟩ 3) := tIn_T (unhide HN7) (fun q => q.1.elim (fun q => absurd q (by decide)) (fun q => absurd q (by decide))) (by decide)
    go_quiet (fail)
    go_wp2_with fail
    refine (takes_T bp v s ⟨cid, ct, nb, 2, cp, cc⟩ 3 _ ((unhide HR4).no (by repeat (first | exact Fr.refl _ _ | refine Fr.drewN ?_ _ | refine Fr.drew ?_))) (unhide HG) (unhide HMC) (.inr hp1)).mono ?_
    rintro e w5 ⟨r, v5, rfl, ho5⟩
    go_wp2
    go_ret
    refine ⟨_, v5, rfl, ?_⟩
    rw [unhide HTT]
    exact RefOut.after (by repeat (first | exact unhide HF2 | refine Fr.drewN ?_ _ | refine Fr.drew ?_)) ho5
end Go.Proofs.YtigpgnjgmaoejaaGreat
