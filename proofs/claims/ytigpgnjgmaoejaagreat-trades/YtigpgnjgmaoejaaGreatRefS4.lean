/- The document's comes for an order of kind 4 whose numbers may be, whose number is new and whose book is in the phase for it. Conditions: the pit is good. -/
import Derived.Test.YtigpgnjgmaoejaaGreatRefS
import Derived.Deep.CutRange
namespace Go.Proofs.YtigpgnjgmaoejaaGreat
open Go.RowKit

set_option maxRecDepth 100000 in
set_option maxHeartbeats 8000000 in
theorem comes_k4 (bp : Nat) (v : Value) (s : Ref) (cw cid ct cs cp cc : Int) (nb : Nat) (w : World) (hr : RefAt w bp v s) (hg : Good s) (hok : newOk ⟨cw, cid, ct, nb, cs, 4, cp, cc⟩ = true) (hk : findO s.L cid = none) (htr : s.tr nb = true) (hmay : MayCome s ⟨cid, ct, nb, cs, cp, cc⟩ 4) :
    Calls Tryz.prog 58 #[.pointer (some ⟨bp, 0, none⟩), (⟨cw, cid, ct, nb, cs, 4, cp, cc⟩ : Cmd).val] w (TPost w bp v (tIn s ⟨cid, ct, nb, cs, cp, cc⟩ 4)) := by
  have HR := hide hr
  have HG := hide hg
  have hn := hg.len
  have hbp := hr.lt
  obtain ⟨h1, h2, h3, h4, h5, h5', h6, h7⟩ := newOk_parts hok
  unfold Cmd.val
  simp only at *
  have HK := hide hk
  obtain ⟨hb1, hb8⟩ := inB_true h3
  have hb8n : nb < 9 := by omega
  have hT := hr.cellTr nb (by omega)
  rw [htr] at hT
  replace h6 := h6.resolve_left (by omega)
  obtain ⟨hp1, hp2⟩ := inB_true h6
  obtain ⟨hc1, hc2⟩ := inB_true h7
  have hr1 := restN_le s.L nb 1
  have hr2 := restN_le s.L nb 2
  have HMAY := hide hmay
  clear hk hok hr hg hmay htr
  rcases h4 with rfl | rfl
  · go_enter Tryz.func58, Tryz.ntmps58
    go_wp2_with (first
      | (go_at_call 57; refine (in_any _ _ _ _).mono ?_; rintro e w1 ⟨rfl, rfl⟩)
      | (go_at_call 113; refine (find_any bp v s _ _ ((unhide HR).no ((Fr.refl _ _).alloc _)) (by omega)).mono ?_; rintro e w1 ⟨rfl, rfl⟩; rw [unhide HK, show enc none = -1 from rfl]))
    go_quiet (fail)
    go_wp2_with fail
    generalize hW : World.alloc (World.drewN _ nq) _ = W
    have hWf : Fr No w W := by rw [← hW]; exact (((Fr.refl _ _).alloc _).drewN _).alloc _
    have HWS : Hid (W.heap.size = w.heap.size + 2) := by show _ = _; rw [← hW]; simp
    have hWc := (show W.heap[w.heap.size]? = some (.cells #[.int .i64 cw, .int .i64 cid, .int .i64 ct, .int .i64 nb, .int .i64 1, .int .i64 4, .int .i64 cp, .int .i64 cc] 31 (0, 0)) from by rw [← hW]; exact (((Fr.refl No _).drewN _).alloc _).heap (heap_alloc_new w _) id)
    have hWx := (show W.heap[w.heap.size + 1]? = some (.cells #[.int .i64 cid, .int .i64 ct, .int .i64 nb, .int .i64 1, .int .i64 cp, .int .i64 cc] 95 (0, 0)) from by rw [← hW]; exact heap_newAt _ _ (by simp))
    clear hW
    refine (crosses_any bp v s ⟨cid, ct, nb, 1, cp, cc⟩ _ ((unhide HR).no hWf) (by omega) (by simp) (by simp)).mono ?_
    rintro e w1 ⟨rfl, hf1⟩
    have hf2 := hWf.quiet hf1
    have hsz1 := hf1.size
    have hWc1 := hf1.heap hWc id
    have hWx1 := hf1.heap hWx id
    clear hWc hWx
    obtain ⟨kd, hkd⟩ : ∃ kd : Int, kd = 4 := ⟨4, rfl⟩
    have k1 : (kd == 1) = false := by rw [hkd]; decide
    have k2 : (kd == 2) = false := by rw [hkd]; decide
    have k4 : (kd == 4) = true := by rw [hkd]; decide
    have k5 : (kd == 5) = false := by rw [hkd]; decide
    rw [← hkd] at hWc1
    have HKD := hide hkd
    clear hkd
    obtain ⟨hy0, hy1, hy2, hy3, hy4, hy5, hy6, hy7, _⟩ := box8 hWc1
    clear hT
    generalize crossB s.L ⟨cid, ct, nb, 1, cp, cc⟩ = cr
    have HR1 := hide ((unhide HR).no hf2)
    have HWC := hide hWc1
    have HWX := hide hWx1
    obtain ⟨hx0, hx1, hx2, hx3, hx4, hx5, _⟩ := box6 hWx1
    have hsx : w.heap.size + 1 < w1.heap.size := lt_of_heap hWx1
    have hsc : w.heap.size < w1.heap.size := lt_of_heap hWc1
    generalize hmm : matchedO s.L ⟨cid, ct, nb, 1, cp, cc⟩ = mm
    have HMM := hide hmm
    have HF1 := hide hf2
    have HIN : Hid (tIn s ⟨cid, ct, nb, 1, cp, cc⟩ 4 = if mm < cc then (s, [refusedE cid 7]) else tTakes s ⟨cid, ct, nb, 1, cp, cc⟩ kd) := by show _ = _; rw [← hmm, unhide HKD]; exact tIn_4
    clear hmm hWf hWc1 hWx1 hf1 hf2
    go_upto_region 14 with fail
    go_cut [131] from 113 to 131 (fun s131 wx => s131 = .bool (decide (mm < cc)) ∧ Fr No w1 wx)
    case first =>
      (first | go_region_with ((go_at_call 115; refine (matched_any bp v s ⟨cid, ct, nb, 1, cp, cc⟩ _ ((unhide HR1).no (by repeat (first | exact Fr.refl _ _ | refine Fr.drewN ?_ _ | refine Fr.drew ?_))) (by omega) (unhide HG).opns).mono ?_; rintro e w6 ⟨rfl, hf6'⟩; rw [unhide HMM]; have hf6 : Fr No w1 w6 := Fr.quiet (by repeat (first | exact Fr.refl _ _ | refine Fr.drewN ?_ _ | refine Fr.drew ?_)) hf6'; obtain ⟨j0, j1, j2, j3, j4, j5, j6, j7, _⟩ := box8 (hf6.heap (unhide HWC) id); obtain ⟨l0, l1, l2, l3, l4, l5, _⟩ := box6 (hf6.heap (unhide HWX) id); have hs6 := hf6.size; have HF6 := hide hf6; clear hf6 hf6')) | skip)
      all_goals
        go_wp2_with fail
        go_meet
        exact ⟨rfl, by repeat (first | exact unhide HF6 | refine Fr.drewN ?_ _ | refine Fr.drew ?_)⟩
    case rest =>
      obtain ⟨rfl, hfc⟩ := hcut
      clear hy0 hy1 hy2 hy3 hy4 hy5 hy6 hy7 hx0 hx1 hx2 hx3 hx4 hx5
      obtain ⟨hz0, hz1, hz2, hz3, hz4, hz5, hz6, hz7, _⟩ := box8 (hfc.heap (unhide HWC) id)
      obtain ⟨hx0, hx1, hx2, hx3, hx4, hx5, _⟩ := box6 (hfc.heap (unhide HWX) id)
      have hs6 := hfc.size
      have HR6 := hide ((unhide HR1).no hfc)
      have HF6 := hide ((unhide HF1).quiet hfc)
      clear hfc
      by_cases hlt : mm < cc
      · have hld : decide (mm < cc) = true := by simpa using hlt
        have HIN2 : Hid (tIn s ⟨cid, ct, nb, 1, cp, cc⟩ 4 = (s, [refusedE cid 7])) := (unhide HIN).trans (if_pos hlt)
        clear HIN hlt
        generalize decide (mm < cc) = dd at *
        subst hld
        go_wp2_with fail
        refine (refused_any _ _ _).mono ?_
        rintro e w5 ⟨r, rfl, he, hf⟩
        go_wp2
        go_ret
        refine ⟨_, v, rfl, ?_⟩
        rw [unhide HIN2]
        exact RefOut.after (unhide HF6) (RefOut.said (unhide HR6) he hf)
      · have hld : decide (mm < cc) = false := by simpa using hlt
        have HIN2 : Hid (tIn s ⟨cid, ct, nb, 1, cp, cc⟩ 4 = tTakes s ⟨cid, ct, nb, 1, cp, cc⟩ kd) := (unhide HIN).trans (if_neg hlt)
        have HMC : Hid (MayCome s ⟨cid, ct, nb, 1, cp, cc⟩ kd) := by show MayCome _ _ _; rw [unhide HKD]; exact unhide HMAY
        clear HIN hlt
        generalize decide (mm < cc) = dd at *
        subst hld
        go_wp2
        go_quiet (fail)
        go_wp2_with fail
        refine (takes_T bp v s ⟨cid, ct, nb, 1, cp, cc⟩ kd _ ((unhide HR6).no (by repeat (first | exact Fr.refl _ _ | refine Fr.drewN ?_ _ | refine Fr.drew ?_))) (unhide HG) (unhide HMC) (.inr hp1)).mono ?_
        rintro e w5 ⟨r, v5, rfl, ho5⟩
        go_wp2
        go_ret
        refine ⟨_, v5, rfl, ?_⟩
        rw [unhide HIN2]
        exact RefOut.after (by repeat (first | exact unhide HF6 | refine Fr.drewN ?_ _ | refine Fr.drew ?_)) ho5
  · go_enter Tryz.func58, Tryz.ntmps58
    go_wp2_with (first
      | (go_at_call 57; refine (in_any _ _ _ _).mono ?_; rintro e w1 ⟨rfl, rfl⟩)
      | (go_at_call 113; refine (find_any bp v s _ _ ((unhide HR).no ((Fr.refl _ _).alloc _)) (by omega)).mono ?_; rintro e w1 ⟨rfl, rfl⟩; rw [unhide HK, show enc none = -1 from rfl]))
    go_quiet (fail)
    go_wp2_with fail
    generalize hW : World.alloc (World.drewN _ nq) _ = W
    have hWf : Fr No w W := by rw [← hW]; exact (((Fr.refl _ _).alloc _).drewN _).alloc _
    have HWS : Hid (W.heap.size = w.heap.size + 2) := by show _ = _; rw [← hW]; simp
    have hWc := (show W.heap[w.heap.size]? = some (.cells #[.int .i64 cw, .int .i64 cid, .int .i64 ct, .int .i64 nb, .int .i64 2, .int .i64 4, .int .i64 cp, .int .i64 cc] 31 (0, 0)) from by rw [← hW]; exact (((Fr.refl No _).drewN _).alloc _).heap (heap_alloc_new w _) id)
    have hWx := (show W.heap[w.heap.size + 1]? = some (.cells #[.int .i64 cid, .int .i64 ct, .int .i64 nb, .int .i64 2, .int .i64 cp, .int .i64 cc] 95 (0, 0)) from by rw [← hW]; exact heap_newAt _ _ (by simp))
    clear hW
    refine (crosses_any bp v s ⟨cid, ct, nb, 2, cp, cc⟩ _ ((unhide HR).no hWf) (by omega) (by simp) (by simp)).mono ?_
    rintro e w1 ⟨rfl, hf1⟩
    have hf2 := hWf.quiet hf1
    have hsz1 := hf1.size
    have hWc1 := hf1.heap hWc id
    have hWx1 := hf1.heap hWx id
    clear hWc hWx
    obtain ⟨kd, hkd⟩ : ∃ kd : Int, kd = 4 := ⟨4, rfl⟩
    have k1 : (kd == 1) = false := by rw [hkd]; decide
    have k2 : (kd == 2) = false := by rw [hkd]; decide
    have k4 : (kd == 4) = true := by rw [hkd]; decide
    have k5 : (kd == 5) = false := by rw [hkd]; decide
    rw [← hkd] at hWc1
    have HKD := hide hkd
    clear hkd
    obtain ⟨hy0, hy1, hy2, hy3, hy4, hy5, hy6, hy7, _⟩ := box8 hWc1
    clear hT
    generalize crossB s.L ⟨cid, ct, nb, 2, cp, cc⟩ = cr
    have HR1 := hide ((unhide HR).no hf2)
    have HWC := hide hWc1
    have HWX := hide hWx1
    obtain ⟨hx0, hx1, hx2, hx3, hx4, hx5, _⟩ := box6 hWx1
    have hsx : w.heap.size + 1 < w1.heap.size := lt_of_heap hWx1
    have hsc : w.heap.size < w1.heap.size := lt_of_heap hWc1
    generalize hmm : matchedO s.L ⟨cid, ct, nb, 2, cp, cc⟩ = mm
    have HMM := hide hmm
    have HF1 := hide hf2
    have HIN : Hid (tIn s ⟨cid, ct, nb, 2, cp, cc⟩ 4 = if mm < cc then (s, [refusedE cid 7]) else tTakes s ⟨cid, ct, nb, 2, cp, cc⟩ kd) := by show _ = _; rw [← hmm, unhide HKD]; exact tIn_4
    clear hmm hWf hWc1 hWx1 hf1 hf2
    go_upto_region 14 with fail
    go_cut [131] from 113 to 131 (fun s131 wx => s131 = .bool (decide (mm < cc)) ∧ Fr No w1 wx)
    case first =>
      (first | go_region_with ((go_at_call 115; refine (matched_any bp v s ⟨cid, ct, nb, 2, cp, cc⟩ _ ((unhide HR1).no (by repeat (first | exact Fr.refl _ _ | refine Fr.drewN ?_ _ | refine Fr.drew ?_))) (by omega) (unhide HG).opns).mono ?_; rintro e w6 ⟨rfl, hf6'⟩; rw [unhide HMM]; have hf6 : Fr No w1 w6 := Fr.quiet (by repeat (first | exact Fr.refl _ _ | refine Fr.drewN ?_ _ | refine Fr.drew ?_)) hf6'; obtain ⟨j0, j1, j2, j3, j4, j5, j6, j7, _⟩ := box8 (hf6.heap (unhide HWC) id); obtain ⟨l0, l1, l2, l3, l4, l5, _⟩ := box6 (hf6.heap (unhide HWX) id); have hs6 := hf6.size; have HF6 := hide hf6; clear hf6 hf6')) | skip)
      all_goals
        go_wp2_with fail
        go_meet
        exact ⟨rfl, by repeat (first | exact unhide HF6 | refine Fr.drewN ?_ _ | refine Fr.drew ?_)⟩
    case rest =>
      obtain ⟨rfl, hfc⟩ := hcut
      clear hy0 hy1 hy2 hy3 hy4 hy5 hy6 hy7 hx0 hx1 hx2 hx3 hx4 hx5
      obtain ⟨hz0, hz1, hz2, hz3, hz4, hz5, hz6, hz7, _⟩ := box8 (hfc.heap (unhide HWC) id)
      obtain ⟨hx0, hx1, hx2, hx3, hx4, hx5, _⟩ := box6 (hfc.heap (unhide HWX) id)
      have hs6 := hfc.size
      have HR6 := hide ((unhide HR1).no hfc)
      have HF6 := hide ((unhide HF1).quiet hfc)
      clear hfc
      by_cases hlt : mm < cc
      · have hld : decide (mm < cc) = true := by simpa using hlt
        have HIN2 : Hid (tIn s ⟨cid, ct, nb, 2, cp, cc⟩ 4 = (s, [refusedE cid 7])) := (unhide HIN).trans (if_pos hlt)
        clear HIN hlt
        generalize decide (mm < cc) = dd at *
        subst hld
        go_wp2_with fail
        refine (refused_any _ _ _).mono ?_
        rintro e w5 ⟨r, rfl, he, hf⟩
        go_wp2
        go_ret
        refine ⟨_, v, rfl, ?_⟩
        rw [unhide HIN2]
        exact RefOut.after (unhide HF6) (RefOut.said (unhide HR6) he hf)
      · have hld : decide (mm < cc) = false := by simpa using hlt
        have HIN2 : Hid (tIn s ⟨cid, ct, nb, 2, cp, cc⟩ 4 = tTakes s ⟨cid, ct, nb, 2, cp, cc⟩ kd) := (unhide HIN).trans (if_neg hlt)
        have HMC : Hid (MayCome s ⟨cid, ct, nb, 2, cp, cc⟩ kd) := by show MayCome _ _ _; rw [unhide HKD]; exact unhide HMAY
        clear HIN hlt
        generalize decide (mm < cc) = dd at *
        subst hld
        go_wp2
        go_quiet (fail)
        go_wp2_with fail
        refine (takes_T bp v s ⟨cid, ct, nb, 2, cp, cc⟩ kd _ ((unhide HR6).no (by repeat (first | exact Fr.refl _ _ | refine Fr.drewN ?_ _ | refine Fr.drew ?_))) (unhide HG) (unhide HMC) (.inr hp1)).mono ?_
        rintro e w5 ⟨r, v5, rfl, ho5⟩
        go_wp2
        go_ret
        refine ⟨_, v5, rfl, ?_⟩
        rw [unhide HIN2]
        exact RefOut.after (by repeat (first | exact unhide HF6 | refine Fr.drewN ?_ _ | refine Fr.drew ?_)) ho5
end Go.Proofs.YtigpgnjgmaoejaaGreat
