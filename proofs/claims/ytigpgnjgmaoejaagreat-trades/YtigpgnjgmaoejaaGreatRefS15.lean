/- The document's comes for an order of kind 1 whose numbers may be, whose number is new and whose book is in the phase for it. Conditions: the pit is good. -/
import Derived.Test.YtigpgnjgmaoejaaGreatRefS
import Derived.Deep.CutRange
namespace Go.Proofs.YtigpgnjgmaoejaaGreat
open Go.RowKit

set_option maxRecDepth 100000 in
set_option maxHeartbeats 8000000 in
theorem comes_k1 (bp : Nat) (v : Value) (s : Ref) (cw cid ct cs cp cc : Int) (nb : Nat) (w : World) (hr : RefAt w bp v s) (hg : Good s) (hok : newOk ⟨cw, cid, ct, nb, cs, 1, cp, cc⟩ = true) (hk : findO s.L cid = none) (hmay : restN s.L (nb : Int) 1 + restN s.L (nb : Int) 2 < 200 → MayCome s ⟨cid, ct, nb, cs, cp, cc⟩ 1) :
    Calls Tryz.prog 58 #[.pointer (some ⟨bp, 0, none⟩), (⟨cw, cid, ct, nb, cs, 1, cp, cc⟩ : Cmd).val] w (TPost w bp v (tIn s ⟨cid, ct, nb, cs, cp, cc⟩ 1)) := by
  have HR := hide hr
  have HG := hide hg
  have hn := hg.len
  have hbp := hr.lt
  obtain ⟨h1, h2, h3, h4, h5, h5', h6, h7⟩ := newOk_parts hok
  unfold Cmd.val
  simp only at *
  have HK := hide hk
  obtain ⟨hb1, hb8⟩ := inB_true h3
  have hb8n : nb < 9 := by omega
  have hT := hr.cellTr nb (by omega)
  replace h6 := h6.resolve_left (by omega)
  obtain ⟨hp1, hp2⟩ := inB_true h6
  obtain ⟨hc1, hc2⟩ := inB_true h7
  have hr1 := restN_le s.L nb 1
  have hr2 := restN_le s.L nb 2
  have HMAY := hide hmay
  clear hk hok hr hg hmay
  cases hTb : s.tr nb
  all_goals
    rw [hTb] at hT
    clear hTb
    rcases h4 with rfl | rfl
    · go_enter Tryz.func58, Tryz.ntmps58
      go_wp2_with (first
        | (go_at_call 57; refine (in_any _ _ _ _).mono ?_; rintro e w1 ⟨rfl, rfl⟩)
        | (go_at_call 113; refine (find_any bp v s _ _ ((unhide HR).no ((Fr.refl _ _).alloc _)) (by omega)).mono ?_; rintro e w1 ⟨rfl, rfl⟩; rw [unhide HK, show enc none = -1 from rfl]))
      go_quiet (fail)
      go_wp2_with fail
      generalize hW : World.alloc (World.drewN _ nq) _ = W
      have hWf : Fr No w W := by rw [← hW]; exact (((Fr.refl _ _).alloc _).drewN _).alloc _
      have HWS : Hid (W.heap.size = w.heap.size + 2) := by show _ = _; rw [← hW]; simp
      have hWc := (show W.heap[w.heap.size]? = some (.cells #[.int .i64 cw, .int .i64 cid, .int .i64 ct, .int .i64 nb, .int .i64 1, .int .i64 1, .int .i64 cp, .int .i64 cc] 31 (0, 0)) from by rw [← hW]; exact (((Fr.refl No _).drewN _).alloc _).heap (heap_alloc_new w _) id)
      have hWx := (show W.heap[w.heap.size + 1]? = some (.cells #[.int .i64 cid, .int .i64 ct, .int .i64 nb, .int .i64 1, .int .i64 cp, .int .i64 cc] 95 (0, 0)) from by rw [← hW]; exact heap_newAt _ _ (by simp))
      clear hW
      refine (crosses_any bp v s ⟨cid, ct, nb, 1, cp, cc⟩ _ ((unhide HR).no hWf) (by omega) (by simp) (by simp)).mono ?_
      rintro e w1 ⟨rfl, hf1⟩
      have hf2 := hWf.quiet hf1
      have hsz1 := hf1.size
      have hWc1 := hf1.heap hWc id
      have hWx1 := hf1.heap hWx id
      clear hWc hWx
      obtain ⟨hy0, hy1, hy2, hy3, hy4, hy5, hy6, hy7, _⟩ := box8 hWc1
      clear hT
      have h7n : (¬ ((1 : Int) = 5 ∧ crossB s.L ⟨cid, ct, nb, 1, cp, cc⟩ = true ∨ (1 : Int) = 4 ∧ matchedO s.L ⟨cid, ct, nb, 1, cp, cc⟩ < cc)) := fun q => q.elim (fun q => absurd q.1 (by decide)) (fun q => absurd q.1 (by decide))
      have HI5 : Hid (200 ≤ restN s.L (nb : Int) 1 + restN s.L (nb : Int) 2 → tIn s ⟨cid, ct, nb, 1, cp, cc⟩ 1 = (s, [refusedE cid 5])) := fun q => tIn_5 h7n (by decide) q
      have HIT : Hid (¬ 200 ≤ restN s.L (nb : Int) 1 + restN s.L (nb : Int) 2 → tIn s ⟨cid, ct, nb, 1, cp, cc⟩ 1 = tTakes s ⟨cid, ct, nb, 1, cp, cc⟩ 1) := fun q => tIn_T h7n (fun p => q p.2) (by decide)
      clear h7n
      generalize crossB s.L ⟨cid, ct, nb, 1, cp, cc⟩ = cr
      go_wp2
      go_quiet (fail)
      go_wp2
      generalize hW3 : World.drewN w1 nq = w3
      have hf3 : Fr No w w3 := by rw [← hW3]; exact hf2.drewN _
      have hWc3 := (show w3.heap[w.heap.size]? = w1.heap[w.heap.size]? from by rw [← hW3]; rfl).trans hWc1
      have hWx3 := (show w3.heap[w.heap.size + 1]? = w1.heap[w.heap.size + 1]? from by rw [← hW3]; rfl).trans hWx1
      obtain ⟨hz0, hz1, hz2, hz3, hz4, hz5, hz6, hz7, _⟩ := box8 hWc3
      obtain ⟨hx0, hx1, hx2, hx3, hx4, hx5, hxf⟩ := box6 hWx3
      have hr4 := (unhide HR).no hf3
      have HR4 := hide hr4
      have HF2 := hide hf3
      have hsz3 : w.heap.size + 1 < w3.heap.size := lt_of_heap hWx3
      clear hWf hWc1 hWx1 hf1 hf2 hr4 hW3 hf3 hWc3 hWx3 hy0 hy1 hy2 hy3 hy4 hy5 hy6 hy7
      by_cases hfull : 200 ≤ restN s.L (nb : Int) 1 + restN s.L (nb : Int) 2
      · have hfi : (200 : Int) ≤ (restN s.L (nb : Int) 1 : Int) + (restN s.L (nb : Int) 2 : Int) := by omega
        have HFU := hide hfull
        clear hfull
        go_quiet ((go_at_call 116; exact Calls.quiet_of_same (resting_any bp v s _ _ _ ((unhide HR4).no (by repeat (first | exact Fr.refl _ _ | refine Fr.drewN ?_ _ | refine Fr.drew ?_))) (by omega))))
        go_wp2_with (go_at_call 60; refine (refused_any _ _ _).mono ?_; rintro e w5 ⟨r, rfl, he, hf⟩)
        go_ret
        refine ⟨_, v, rfl, ?_⟩
        rw [unhide HI5 (unhide HFU)]
        exact RefOut.after (by repeat (first | exact unhide HF2 | refine Fr.drewN ?_ _ | refine Fr.drew ?_)) (RefOut.said ((unhide HR4).no (by repeat (first | exact Fr.refl _ _ | refine Fr.drewN ?_ _ | refine Fr.drew ?_))) he hf)
      · have hfi : decide ((200 : Int) ≤ (restN s.L (nb : Int) 1 : Int) + (restN s.L (nb : Int) 2 : Int)) = false := by simp; omega
        have HMC : Hid (MayCome s ⟨cid, ct, nb, 1, cp, cc⟩ 1) := (unhide HMAY) (by omega)
        have HTT : Hid (tIn s ⟨cid, ct, nb, 1, cp, cc⟩ 1 = tTakes s ⟨cid, ct, nb, 1, cp, cc⟩ 1) := unhide HIT hfull
        clear hfull
        go_quiet ((go_at_call 116; exact Calls.quiet_of_same (resting_any bp v s _ _ _ ((unhide HR4).no (by repeat (first | exact Fr.refl _ _ | refine Fr.drewN ?_ _ | refine Fr.drew ?_))) (by omega))))
        go_wp2_with fail
        refine (takes_T bp v s ⟨cid, ct, nb, 1, cp, cc⟩ 1 _ ((unhide HR4).no (by repeat (first | exact Fr.refl _ _ | refine Fr.drewN ?_ _ | refine Fr.drew ?_))) (unhide HG) (unhide HMC) (.inr hp1)).mono ?_
        rintro e w5 ⟨r, v5, rfl, ho5⟩
        go_wp2
        go_ret
        refine ⟨_, v5, rfl, ?_⟩
        rw [unhide HTT]
        exact RefOut.after (by repeat (first | exact unhide HF2 | refine Fr.drewN ?_ _ | refine Fr.drew ?_)) ho5
    · go_enter Tryz.func58, Tryz.ntmps58
      go_wp2_with (first
        | (go_at_call 57; refine (in_any _ _ _ _).mono ?_; rintro e w1 ⟨rfl, rfl⟩)
        | (go_at_call 113; refine (find_any bp v s _ _ ((unhide HR).no ((Fr.refl _ _).alloc _)) (by omega)).mono ?_; rintro e w1 ⟨rfl, rfl⟩; rw [unhide HK, show enc none = -1 from rfl]))
      go_quiet (fail)
      go_wp2_with fail
      generalize hW : World.alloc (World.drewN _ nq) _ = W
      have hWf : Fr No w W := by rw [← hW]; exact (((Fr.refl _ _).alloc _).drewN _).alloc _
      have HWS : Hid (W.heap.size = w.heap.size + 2) := by show _ = _; rw [← hW]; simp
      have hWc := (show W.heap[w.heap.size]? = some (.cells #[.int .i64 cw, .int .i64 cid, .int .i64 ct, .int .i64 nb, .int .i64 2, .int .i64 1, .int .i64 cp, .int .i64 cc] 31 (0, 0)) from by rw [← hW]; exact (((Fr.refl No _).drewN _).alloc _).heap (heap_alloc_new w _) id)
      have hWx := (show W.heap[w.heap.size + 1]? = some (.cells #[.int .i64 cid, .int .i64 ct, .int .i64 nb, .int .i64 2, .int .i64 cp, .int .i64 cc] 95 (0, 0)) from by rw [← hW]; exact heap_newAt _ _ (by simp))
      clear hW
      refine (crosses_any bp v s ⟨cid, ct, nb, 2, cp, cc⟩ _ ((unhide HR).no hWf) (by omega) (by simp) (by simp)).mono ?_
      rintro e w1 ⟨rfl, hf1⟩
      have hf2 := hWf.quiet hf1
      have hsz1 := hf1.size
      have hWc1 := hf1.heap hWc id
      have hWx1 := hf1.heap hWx id
      clear hWc hWx
      obtain ⟨hy0, hy1, hy2, hy3, hy4, hy5, hy6, hy7, _⟩ := box8 hWc1
      clear hT
      have h7n : (¬ ((1 : Int) = 5 ∧ crossB s.L ⟨cid, ct, nb, 2, cp, cc⟩ = true ∨ (1 : Int) = 4 ∧ matchedO s.L ⟨cid, ct, nb, 2, cp, cc⟩ < cc)) := fun q => q.elim (fun q => absurd q.1 (by decide)) (fun q => absurd q.1 (by decide))
      have HI5 : Hid (200 ≤ restN s.L (nb : Int) 1 + restN s.L (nb : Int) 2 → tIn s ⟨cid, ct, nb, 2, cp, cc⟩ 1 = (s, [refusedE cid 5])) := fun q => tIn_5 h7n (by decide) q
      have HIT : Hid (¬ 200 ≤ restN s.L (nb : Int) 1 + restN s.L (nb : Int) 2 → tIn s ⟨cid, ct, nb, 2, cp, cc⟩ 1 = tTakes s ⟨cid, ct, nb, 2, cp, cc⟩ 1) := fun q => tIn_T h7n (fun p => q p.2) (by decide)
      clear h7n
      generalize crossB s.L ⟨cid, ct, nb, 2, cp, cc⟩ = cr
      go_wp2
      go_quiet (fail)
      go_wp2
      generalize hW3 : World.drewN w1 nq = w3
      have hf3 : Fr No w w3 := by rw [← hW3]; exact hf2.drewN _
      have hWc3 := (show w3.heap[w.heap.size]? = w1.heap[w.heap.size]? from by rw [← hW3]; rfl).trans hWc1
      have hWx3 := (show w3.heap[w.heap.size + 1]? = w1.heap[w.heap.size + 1]? from by rw [← hW3]; rfl).trans hWx1
      obtain ⟨hz0, hz1, hz2, hz3, hz4, hz5, hz6, hz7, _⟩ := box8 hWc3
      obtain ⟨hx0, hx1, hx2, hx3, hx4, hx5, hxf⟩ := box6 hWx3
      have hr4 := (unhide HR).no hf3
      have HR4 := hide hr4
      have HF2 := hide hf3
      have hsz3 : w.heap.size + 1 < w3.heap.size := lt_of_heap hWx3
      clear hWf hWc1 hWx1 hf1 hf2 hr4 hW3 hf3 hWc3 hWx3 hy0 hy1 hy2 hy3 hy4 hy5 hy6 hy7
      by_cases hfull : 200 ≤ restN s.L (nb : Int) 1 + restN s.L (nb : Int) 2
      · have hfi : (200 : Int) ≤ (restN s.L (nb : Int) 1 : Int) + (restN s.L (nb : Int) 2 : Int) := by omega
        have HFU := hide hfull
        clear hfull
        go_quiet ((go_at_call 116; exact Calls.quiet_of_same (resting_any bp v s _ _ _ ((unhide HR4).no (by repeat (first | exact Fr.refl _ _ | refine Fr.drewN ?_ _ | refine Fr.drew ?_))) (by omega))))
        go_wp2_with (go_at_call 60; refine (refused_any _ _ _).mono ?_; rintro e w5 ⟨r, rfl, he, hf⟩)
        go_ret
        refine ⟨_, v, rfl, ?_⟩
        rw [unhide HI5 (unhide HFU)]
        exact RefOut.after (by repeat (first | exact unhide HF2 | refine Fr.drewN ?_ _ | refine Fr.drew ?_)) (RefOut.said ((unhide HR4).no (by repeat (first | exact Fr.refl _ _ | refine Fr.drewN ?_ _ | refine Fr.drew ?_))) he hf)
      · have hfi : decide ((200 : Int) ≤ (restN s.L (nb : Int) 1 : Int) + (restN s.L (nb : Int) 2 : Int)) = false := by simp; omega
        have HMC : Hid (MayCome s ⟨cid, ct, nb, 2, cp, cc⟩ 1) := (unhide HMAY) (by omega)
        have HTT : Hid (tIn s ⟨cid, ct, nb, 2, cp, cc⟩ 1 = tTakes s ⟨cid, ct, nb, 2, cp, cc⟩ 1) := unhide HIT hfull
        clear hfull
        go_quiet ((go_at_call 116; exact Calls.quiet_of_same (resting_any bp v s _ _ _ ((unhide HR4).no (by repeat (first | exact Fr.refl _ _ | refine Fr.drewN ?_ _ | refine Fr.drew ?_))) (by omega))))
        go_wp2_with fail
        refine (takes_T bp v s ⟨cid, ct, nb, 2, cp, cc⟩ 1 _ ((unhide HR4).no (by repeat (first | exact Fr.refl _ _ | refine Fr.drewN ?_ _ | refine Fr.drew ?_))) (unhide HG) (unhide HMC) (.inr hp1)).mono ?_
        rintro e w5 ⟨r, v5, rfl, ho5⟩
        go_wp2
        go_ret
        refine ⟨_, v5, rfl, ?_⟩
        rw [unhide HTT]
        exact RefOut.after (by repeat (first | exact unhide HF2 | refine Fr.drewN ?_ _ | refine Fr.drew ?_)) ho5
end Go.Proofs.YtigpgnjgmaoejaaGreat

/- The document's comes for an order of kind 5 whose numbers may be, whose number is new and whose book is in the phase for it. Conditions: the pit is good. -/
namespace Go.Proofs.YtigpgnjgmaoejaaGreat
open Go.RowKit

set_option maxRecDepth 100000 in
set_option maxHeartbeats 8000000 in
theorem comes_k5 (bp : Nat) (v : Value) (s : Ref) (cw cid ct cs cp cc : Int) (nb : Nat) (w : World) (hr : RefAt w bp v s) (hg : Good s) (hok : newOk ⟨cw, cid, ct, nb, cs, 5, cp, cc⟩ = true) (hk : findO s.L cid = none) (htr : s.tr nb = true) (hmay : restN s.L (nb : Int) 1 + restN s.L (nb : Int) 2 < 200 → MayCome s ⟨cid, ct, nb, cs, cp, cc⟩ 5) :
    Calls Tryz.prog 58 #[.pointer (some ⟨bp, 0, none⟩), (⟨cw, cid, ct, nb, cs, 5, cp, cc⟩ : Cmd).val] w (TPost w bp v (tIn s ⟨cid, ct, nb, cs, cp, cc⟩ 5)) := by
  have HR := hide hr
  have HG := hide hg
  have hn := hg.len
  have hbp := hr.lt
  obtain ⟨h1, h2, h3, h4, h5, h5', h6, h7⟩ := newOk_parts hok
  unfold Cmd.val
  simp only at *
  have HK := hide hk
  obtain ⟨hb1, hb8⟩ := inB_true h3
  have hb8n : nb < 9 := by omega
  have hT := hr.cellTr nb (by omega)
  rw [htr] at hT
  replace h6 := h6.resolve_left (by omega)
  obtain ⟨hp1, hp2⟩ := inB_true h6
  obtain ⟨hc1, hc2⟩ := inB_true h7
  have hr1 := restN_le s.L nb 1
  have hr2 := restN_le s.L nb 2
  have HMAY := hide hmay
  clear hk hok hr hg hmay htr
  rcases h4 with rfl | rfl
  · go_enter Tryz.func58, Tryz.ntmps58
    go_wp2_with (first
      | (go_at_call 57; refine (in_any _ _ _ _).mono ?_; rintro e w1 ⟨rfl, rfl⟩)
      | (go_at_call 113; refine (find_any bp v s _ _ ((unhide HR).no ((Fr.refl _ _).alloc _)) (by omega)).mono ?_; rintro e w1 ⟨rfl, rfl⟩; rw [unhide HK, show enc none = -1 from rfl]))
    go_quiet (fail)
    go_wp2_with fail
    generalize hW : World.alloc (World.drewN _ nq) _ = W
    have hWf : Fr No w W := by rw [← hW]; exact (((Fr.refl _ _).alloc _).drewN _).alloc _
    have HWS : Hid (W.heap.size = w.heap.size + 2) := by show _ = _; rw [← hW]; simp
    have hWc := (show W.heap[w.heap.size]? = some (.cells #[.int .i64 cw, .int .i64 cid, .int .i64 ct, .int .i64 nb, .int .i64 1, .int .i64 5, .int .i64 cp, .int .i64 cc] 31 (0, 0)) from by rw [← hW]; exact (((Fr.refl No _).drewN _).alloc _).heap (heap_alloc_new w _) id)
    have hWx := (show W.heap[w.heap.size + 1]? = some (.cells #[.int .i64 cid, .int .i64 ct, .int .i64 nb, .int .i64 1, .int .i64 cp, .int .i64 cc] 95 (0, 0)) from by rw [← hW]; exact heap_newAt _ _ (by simp))
    clear hW
    refine (crosses_any bp v s ⟨cid, ct, nb, 1, cp, cc⟩ _ ((unhide HR).no hWf) (by omega) (by simp) (by simp)).mono ?_
    rintro e w1 ⟨rfl, hf1⟩
    have hf2 := hWf.quiet hf1
    have hsz1 := hf1.size
    have hWc1 := hf1.heap hWc id
    have hWx1 := hf1.heap hWx id
    clear hWc hWx
    obtain ⟨hy0, hy1, hy2, hy3, hy4, hy5, hy6, hy7, _⟩ := box8 hWc1
    clear hT
    cases hcr : crossB s.L ⟨cid, ct, nb, 1, cp, cc⟩
    · have h7n : (¬ ((5 : Int) = 5 ∧ crossB s.L ⟨cid, ct, nb, 1, cp, cc⟩ = true ∨ (5 : Int) = 4 ∧ matchedO s.L ⟨cid, ct, nb, 1, cp, cc⟩ < cc)) := fun q => q.elim (fun q => by rw [hcr] at q; exact absurd q.2 (by decide)) (fun q => absurd q.1 (by decide))
      have HI5 : Hid (200 ≤ restN s.L (nb : Int) 1 + restN s.L (nb : Int) 2 → tIn s ⟨cid, ct, nb, 1, cp, cc⟩ 5 = (s, [refusedE cid 5])) := fun q => tIn_5 h7n (by decide) q
      have HIT : Hid (¬ 200 ≤ restN s.L (nb : Int) 1 + restN s.L (nb : Int) 2 → tIn s ⟨cid, ct, nb, 1, cp, cc⟩ 5 = tTakes s ⟨cid, ct, nb, 1, cp, cc⟩ 5) := fun q => tIn_T h7n (fun p => q p.2) (by decide)
      clear h7n
      clear hcr
      go_wp2
      go_quiet (fail)
      go_wp2
      generalize hW3 : World.drewN w1 nq = w3
      have hf3 : Fr No w w3 := by rw [← hW3]; exact hf2.drewN _
      have hWc3 := (show w3.heap[w.heap.size]? = w1.heap[w.heap.size]? from by rw [← hW3]; rfl).trans hWc1
      have hWx3 := (show w3.heap[w.heap.size + 1]? = w1.heap[w.heap.size + 1]? from by rw [← hW3]; rfl).trans hWx1
      obtain ⟨hz0, hz1, hz2, hz3, hz4, hz5, hz6, hz7, _⟩ := box8 hWc3
      obtain ⟨hx0, hx1, hx2, hx3, hx4, hx5, hxf⟩ := box6 hWx3
      have hr4 := (unhide HR).no hf3
      have HR4 := hide hr4
      have HF2 := hide hf3
      have hsz3 : w.heap.size + 1 < w3.heap.size := lt_of_heap hWx3
      clear hWf hWc1 hWx1 hf1 hf2 hr4 hW3 hf3 hWc3 hWx3 hy0 hy1 hy2 hy3 hy4 hy5 hy6 hy7
      by_cases hfull : 200 ≤ restN s.L (nb : Int) 1 + restN s.L (nb : Int) 2
      · have hfi : (200 : Int) ≤ (restN s.L (nb : Int) 1 : Int) + (restN s.L (nb : Int) 2 : Int) := by omega
        have HFU := hide hfull
        clear hfull
        go_quiet ((go_at_call 116; exact Calls.quiet_of_same (resting_any bp v s _ _ _ ((unhide HR4).no (by repeat (first | exact Fr.refl _ _ | refine Fr.drewN ?_ _ | refine Fr.drew ?_))) (by omega))))
        go_wp2_with (go_at_call 60; refine (refused_any _ _ _).mono ?_; rintro e w5 ⟨r, rfl, he, hf⟩)
        go_ret
        refine ⟨_, v, rfl, ?_⟩
        rw [unhide HI5 (unhide HFU)]
        exact RefOut.after (by repeat (first | exact unhide HF2 | refine Fr.drewN ?_ _ | refine Fr.drew ?_)) (RefOut.said ((unhide HR4).no (by repeat (first | exact Fr.refl _ _ | refine Fr.drewN ?_ _ | refine Fr.drew ?_))) he hf)
      · have hfi : decide ((200 : Int) ≤ (restN s.L (nb : Int) 1 : Int) + (restN s.L (nb : Int) 2 : Int)) = false := by simp; omega
        have HMC : Hid (MayCome s ⟨cid, ct, nb, 1, cp, cc⟩ 5) := (unhide HMAY) (by omega)
        have HTT : Hid (tIn s ⟨cid, ct, nb, 1, cp, cc⟩ 5 = tTakes s ⟨cid, ct, nb, 1, cp, cc⟩ 5) := unhide HIT hfull
        clear hfull
        go_quiet ((go_at_call 116; exact Calls.quiet_of_same (resting_any bp v s _ _ _ ((unhide HR4).no (by repeat (first | exact Fr.refl _ _ | refine Fr.drewN ?_ _ | refine Fr.drew ?_))) (by omega))))
        go_wp2_with fail
        refine (takes_T bp v s ⟨cid, ct, nb, 1, cp, cc⟩ 5 _ ((unhide HR4).no (by repeat (first | exact Fr.refl _ _ | refine Fr.drewN ?_ _ | refine Fr.drew ?_))) (unhide HG) (unhide HMC) (.inr hp1)).mono ?_
        rintro e w5 ⟨r, v5, rfl, ho5⟩
        go_wp2
        go_ret
        refine ⟨_, v5, rfl, ?_⟩
        rw [unhide HTT]
        exact RefOut.after (by repeat (first | exact unhide HF2 | refine Fr.drewN ?_ _ | refine Fr.drew ?_)) ho5
    · have HY7 : Hid (tIn s ⟨cid, ct, nb, 1, cp, cc⟩ 5 = (s, [refusedE cid 7])) := tIn_7 (.inl ⟨rfl, hcr⟩)
      clear hcr
      go_wp2
      go_quiet (fail)
      go_wp2_with fail
      generalize hW3 : World.drewN w1 nq = w3
      have hf3 : Fr No w w3 := by rw [← hW3]; exact hf2.drewN _
      have hWc3 := (show w3.heap[w.heap.size]? = w1.heap[w.heap.size]? from by rw [← hW3]; rfl).trans hWc1
      have hWx3 := (show w3.heap[w.heap.size + 1]? = w1.heap[w.heap.size + 1]? from by rw [← hW3]; rfl).trans hWx1
      obtain ⟨hz0, hz1, hz2, hz3, hz4, hz5, hz6, hz7, _⟩ := box8 hWc3
      obtain ⟨hx0, hx1, hx2, hx3, hx4, hx5, hxf⟩ := box6 hWx3
      have hr4 := (unhide HR).no hf3
      have HR4 := hide hr4
      have HF2 := hide hf3
      have hsz3 : w.heap.size + 1 < w3.heap.size := lt_of_heap hWx3
      clear hWf hWc1 hWx1 hf1 hf2 hr4 hW3 hf3 hWc3 hWx3 hy0 hy1 hy2 hy3 hy4 hy5 hy6 hy7
      refine (refused_any _ _ _).mono ?_
      rintro e w5 ⟨r, rfl, he, hf⟩
      go_wp2
      go_ret
      refine ⟨_, v, rfl, ?_⟩
      rw [unhide HY7]
      exact RefOut.after (unhide HF2) (RefOut.said (unhide HR4) he hf)
  · go_enter Tryz.func58, Tryz.ntmps58
    go_wp2_with (first
      | (go_at_call 57; refine (in_any _ _ _ _).mono ?_; rintro e w1 ⟨rfl, rfl⟩)
      | (go_at_call 113; refine (find_any bp v s _ _ ((unhide HR).no ((Fr.refl _ _).alloc _)) (by omega)).mono ?_; rintro e w1 ⟨rfl, rfl⟩; rw [unhide HK, show enc none = -1 from rfl]))
    go_quiet (fail)
    go_wp2_with fail
    generalize hW : World.alloc (World.drewN _ nq) _ = W
    have hWf : Fr No w W := by rw [← hW]; exact (((Fr.refl _ _).alloc _).drewN _).alloc _
    have HWS : Hid (W.heap.size = w.heap.size + 2) := by show _ = _; rw [← hW]; simp
    have hWc := (show W.heap[w.heap.size]? = some (.cells #[.int .i64 cw, .int .i64 cid, .int .i64 ct, .int .i64 nb, .int .i64 2, .int .i64 5, .int .i64 cp, .int .i64 cc] 31 (0, 0)) from by rw [← hW]; exact (((Fr.refl No _).drewN _).alloc _).heap (heap_alloc_new w _) id)
    have hWx := (show W.heap[w.heap.size + 1]? = some (.cells #[.int .i64 cid, .int .i64 ct, .int .i64 nb, .int .i64 2, .int .i64 cp, .int .i64 cc] 95 (0, 0)) from by rw [← hW]; exact heap_newAt _ _ (by simp))
    clear hW
    refine (crosses_any bp v s ⟨cid, ct, nb, 2, cp, cc⟩ _ ((unhide HR).no hWf) (by omega) (by simp) (by simp)).mono ?_
    rintro e w1 ⟨rfl, hf1⟩
    have hf2 := hWf.quiet hf1
    have hsz1 := hf1.size
    have hWc1 := hf1.heap hWc id
    have hWx1 := hf1.heap hWx id
    clear hWc hWx
    obtain ⟨hy0, hy1, hy2, hy3, hy4, hy5, hy6, hy7, _⟩ := box8 hWc1
    clear hT
    cases hcr : crossB s.L ⟨cid, ct, nb, 2, cp, cc⟩
    · have h7n : (¬ ((5 : Int) = 5 ∧ crossB s.L ⟨cid, ct, nb, 2, cp, cc⟩ = true ∨ (5 : Int) = 4 ∧ matchedO s.L ⟨cid, ct, nb, 2, cp, cc⟩ < cc)) := fun q => q.elim (fun q => by rw [hcr] at q; exact absurd q.2 (by decide)) (fun q => absurd q.1 (by decide))
      have HI5 : Hid (200 ≤ restN s.L (nb : Int) 1 + restN s.L (nb : Int) 2 → tIn s ⟨cid, ct, nb, 2, cp, cc⟩ 5 = (s, [refusedE cid 5])) := fun q => tIn_5 h7n (by decide) q
      have HIT : Hid (¬ 200 ≤ restN s.L (nb : Int) 1 + restN s.L (nb : Int) 2 → tIn s ⟨cid, ct, nb, 2, cp, cc⟩ 5 = tTakes s ⟨cid, ct, nb, 2, cp, cc⟩ 5) := fun q => tIn_T h7n (fun p => q p.2) (by decide)
      clear h7n
      clear hcr
      go_wp2
      go_quiet (fail)
      go_wp2
      generalize hW3 : World.drewN w1 nq = w3
      have hf3 : Fr No w w3 := by rw [← hW3]; exact hf2.drewN _
      have hWc3 := (show w3.heap[w.heap.size]? = w1.heap[w.heap.size]? from by rw [← hW3]; rfl).trans hWc1
      have hWx3 := (show w3.heap[w.heap.size + 1]? = w1.heap[w.heap.size + 1]? from by rw [← hW3]; rfl).trans hWx1
      obtain ⟨hz0, hz1, hz2, hz3, hz4, hz5, hz6, hz7, _⟩ := box8 hWc3
      obtain ⟨hx0, hx1, hx2, hx3, hx4, hx5, hxf⟩ := box6 hWx3
      have hr4 := (unhide HR).no hf3
      have HR4 := hide hr4
      have HF2 := hide hf3
      have hsz3 : w.heap.size + 1 < w3.heap.size := lt_of_heap hWx3
      clear hWf hWc1 hWx1 hf1 hf2 hr4 hW3 hf3 hWc3 hWx3 hy0 hy1 hy2 hy3 hy4 hy5 hy6 hy7
      by_cases hfull : 200 ≤ restN s.L (nb : Int) 1 + restN s.L (nb : Int) 2
      · have hfi : (200 : Int) ≤ (restN s.L (nb : Int) 1 : Int) + (restN s.L (nb : Int) 2 : Int) := by omega
        have HFU := hide hfull
        clear hfull
        go_quiet ((go_at_call 116; exact Calls.quiet_of_same (resting_any bp v s _ _ _ ((unhide HR4).no (by repeat (first | exact Fr.refl _ _ | refine Fr.drewN ?_ _ | refine Fr.drew ?_))) (by omega))))
        go_wp2_with (go_at_call 60; refine (refused_any _ _ _).mono ?_; rintro e w5 ⟨r, rfl, he, hf⟩)
        go_ret
        refine ⟨_, v, rfl, ?_⟩
        rw [unhide HI5 (unhide HFU)]
        exact RefOut.after (by repeat (first | exact unhide HF2 | refine Fr.drewN ?_ _ | refine Fr.drew ?_)) (RefOut.said ((unhide HR4).no (by repeat (first | exact Fr.refl _ _ | refine Fr.drewN ?_ _ | refine Fr.drew ?_))) he hf)
      · have hfi : decide ((200 : Int) ≤ (restN s.L (nb : Int) 1 : Int) + (restN s.L (nb : Int) 2 : Int)) = false := by simp; omega
        have HMC : Hid (MayCome s ⟨cid, ct, nb, 2, cp, cc⟩ 5) := (unhide HMAY) (by omega)
        have HTT : Hid (tIn s ⟨cid, ct, nb, 2, cp, cc⟩ 5 = tTakes s ⟨cid, ct, nb, 2, cp, cc⟩ 5) := unhide HIT hfull
        clear hfull
        go_quiet ((go_at_call 116; exact Calls.quiet_of_same (resting_any bp v s _ _ _ ((unhide HR4).no (by repeat (first | exact Fr.refl _ _ | refine Fr.drewN ?_ _ | refine Fr.drew ?_))) (by omega))))
        go_wp2_with fail
        refine (takes_T bp v s ⟨cid, ct, nb, 2, cp, cc⟩ 5 _ ((unhide HR4).no (by repeat (first | exact Fr.refl _ _ | refine Fr.drewN ?_ _ | refine Fr.drew ?_))) (unhide HG) (unhide HMC) (.inr hp1)).mono ?_
        rintro e w5 ⟨r, v5, rfl, ho5⟩
        go_wp2
        go_ret
        refine ⟨_, v5, rfl, ?_⟩
        rw [unhide HTT]
        exact RefOut.after (by repeat (first | exact unhide HF2 | refine Fr.drewN ?_ _ | refine Fr.drew ?_)) ho5
    · have HY7 : Hid (tIn s ⟨cid, ct, nb, 2, cp, cc⟩ 5 = (s, [refusedE cid 7])) := tIn_7 (.inl ⟨rfl, hcr⟩)
      clear hcr
      go_wp2
      go_quiet (fail)
      go_wp2_with fail
      generalize hW3 : World.drewN w1 nq = w3
      have hf3 : Fr No w w3 := by rw [← hW3]; exact hf2.drewN _
      have hWc3 := (show w3.heap[w.heap.size]? = w1.heap[w.heap.size]? from by rw [← hW3]; rfl).trans hWc1
      have hWx3 := (show w3.heap[w.heap.size + 1]? = w1.heap[w.heap.size + 1]? from by rw [← hW3]; rfl).trans hWx1
      obtain ⟨hz0, hz1, hz2, hz3, hz4, hz5, hz6, hz7, _⟩ := box8 hWc3
      obtain ⟨hx0, hx1, hx2, hx3, hx4, hx5, hxf⟩ := box6 hWx3
      have hr4 := (unhide HR).no hf3
      have HR4 := hide hr4
      have HF2 := hide hf3
      have hsz3 : w.heap.size + 1 < w3.heap.size := lt_of_heap hWx3
      clear hWf hWc1 hWx1 hf1 hf2 hr4 hW3 hf3 hWc3 hWx3 hy0 hy1 hy2 hy3 hy4 hy5 hy6 hy7
      refine (refused_any _ _ _).mono ?_
      rintro e w5 ⟨r, rfl, he, hf⟩
      go_wp2
      go_ret
      refine ⟨_, v, rfl, ?_⟩
      rw [unhide HY7]
      exact RefOut.after (unhide HF2) (RefOut.said (unhide HR4) he hf)
end Go.Proofs.YtigpgnjgmaoejaaGreat
