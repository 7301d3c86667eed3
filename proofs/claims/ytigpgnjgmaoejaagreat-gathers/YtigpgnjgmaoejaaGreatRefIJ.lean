/- Contract of the document's turns (Cancel, Change): wrong numbers, none such, Cancel. Conditions: the pit lies in memory, fewer than 100000 orders rest. -/
import Derived.Test.YtigpgnjgmaoejaaGreatRefFG
import Derived.Test.YtigpgnjgmaoejaaGreatRefH
namespace Go.Proofs.YtigpgnjgmaoejaaGreat
open Go.RowKit

def turnOk (c : Cmd) : Bool := inB c.id 1 1000000000 && inB c.trader 1 1000 && (c.what != 3 || (inB c.price 1 1000000 && inB c.count 1 1000000))

theorem turnOk_parts {c : Cmd} (h : turnOk c = true) : inB c.id 1 1000000000 = true ∧ inB c.trader 1 1000 = true ∧ (c.what = 3 → inB c.price 1 1000000 = true ∧ inB c.count 1 1000000 = true) := by
  simp only [turnOk, Bool.and_eq_true, Bool.or_eq_true, bne_iff_ne, ne_eq] at h
  exact ⟨h.1.1, h.1.2, fun e => h.2.resolve_left (fun n => n e)⟩

set_option maxRecDepth 100000 in
set_option maxHeartbeats 4000000 in
theorem turns_bad (bp : Nat) (v : Value) (s : Ref) (c : Cmd) (w : World) (hr : RefAt w bp v s) (hbad : turnOk c = false) :
    Calls Tryz.prog 59 #[.pointer (some ⟨bp, 0, none⟩), c.val] w fun e w' => ∃ r, e = .returned r ∧ RefOut w w' bp v v s r [refusedE c.id 2] := by
  have HR := hide hr
  clear hr
  obtain ⟨cw, cid, ct, cb, cs, ck, cp, cc⟩ := c
  unfold Cmd.val
  simp only
  have hB : Hid (turnOk ⟨cw, cid, ct, cb, cs, ck, cp, cc⟩ = false) := hbad
  clear hbad
  go_enter Tryz.func59, Tryz.ntmps59
  go_wp2_with (go_at_call 57; refine (in_any _ _ _ _).mono ?_; rintro e w1 ⟨rfl, rfl⟩)
  all_goals first
    | (go_at_call 60
       refine (refused_any _ _ _).mono ?_
       rintro e w1 ⟨r, rfl, he, hf⟩
       go_wp2
       go_ret
       exact ⟨_, rfl, RefOut.said (unhide HR) (own_base he (fun g hg => by have := (he.lt g hg).1; simp at this; omega)) (((Fr.refl _ _).alloc _).quiet hf)⟩)
    | (exfalso
       have hb := unhide hB
       clear HR
       simp_all [turnOk, inB]
       try omega)

set_option maxRecDepth 100000 in
set_option maxHeartbeats 4000000 in
theorem turns_none (bp : Nat) (v : Value) (s : Ref) (c : Cmd) (w : World) (hr : RefAt w bp v s) (hn : s.L.length ≤ 100000) (hok : turnOk c = true)
    (hk : findO s.L c.id = none ∨ ∃ i, ∃ h : i < s.L.length, findO s.L c.id = some i ∧ s.L[i].trader ≠ c.trader) :
    Calls Tryz.prog 59 #[.pointer (some ⟨bp, 0, none⟩), c.val] w fun e w' => ∃ r, e = .returned r ∧ RefOut w w' bp v v s r [refusedE c.id 4] := by
  have HR := hide hr
  have hbp := hr.lt
  have hL := hr.cellL
  obtain ⟨a, cap, rfl⟩ := hr.form
  obtain ⟨h1, h2, h3⟩ := turnOk_parts hok
  obtain ⟨cw, cid, ct, cb, cs, ck, cp, cc⟩ := c
  unfold Cmd.val
  simp only at *
  rcases hk with hk | ⟨i, hi, hk, hne⟩
  · have HK := hide hk
    clear hk hok hr
    by_cases hw : cw = 3
    all_goals
      first | (subst hw; obtain ⟨h4, h5⟩ := h3 rfl) | (have h4 : (cw == 3) = false := by simpa using hw)
      clear h3
      try clear hw
      go_enter Tryz.func59, Tryz.ntmps59
      go_wp2_with (first
        | (go_at_call 57; refine (in_any _ _ _ _).mono ?_; rintro e w1 ⟨rfl, rfl⟩)
        | (go_at_call 113; refine (find_any bp _ s _ _ ((unhide HR).no ((Fr.refl _ _).alloc _)) hn).mono ?_; rintro e w1 ⟨rfl, rfl⟩; rw [unhide HK, show enc none = -1 from rfl]))
      go_quiet (fail)
      go_wp2_with (go_at_call 60; refine (refused_any _ _ _).mono ?_; rintro e w1 ⟨r, rfl, he, hf⟩)
      go_ret
      exact ⟨_, rfl, RefOut.said (unhide HR) (own_base he (fun g hg => by have := (he.lt g hg).1; simp at this; omega)) ((((Fr.refl _ _).alloc _).drewN _).quiet hf)⟩
  · obtain ⟨g, rfl, hg, _, _, hc1, _⟩ := os_at hr.own i hi
    have HK := hide hk
    have hne' : (s.L[i].trader != ct) = true := by simpa using hne
    have hi0 : decide ((i : Int) < 0) = false := by simp
    have hin : (i : Int) < s.L.length := by omega
    clear hk hok hr hne
    by_cases hw : cw = 3
    all_goals
      first | (subst hw; obtain ⟨h4, h5⟩ := h3 rfl) | (have h4 : (cw == 3) = false := by simpa using hw)
      clear h3
      try clear hw
      go_enter Tryz.func59, Tryz.ntmps59
      go_wp2_with (first
        | (go_at_call 57; refine (in_any _ _ _ _).mono ?_; rintro e w1 ⟨rfl, rfl⟩)
        | (go_at_call 113; refine (find_any bp _ s _ _ ((unhide HR).no ((Fr.refl _ _).alloc _)) hn).mono ?_; rintro e w1 ⟨rfl, rfl⟩; rw [unhide HK, show enc (some i) = (i : Int) from rfl]))
      go_quiet (fail)
      go_wp2_with (go_at_call 60; refine (refused_any _ _ _).mono ?_; rintro e w1 ⟨r, rfl, he, hf⟩)
      go_ret
      exact ⟨_, rfl, RefOut.said (unhide HR) (own_base he (fun g hg => by have := (he.lt g hg).1; simp at this; omega)) ((((Fr.refl _ _).alloc _).drewN _).quiet hf)⟩
end Go.Proofs.YtigpgnjgmaoejaaGreat

/- Contract of the document's turns (Cancel, Change): Cancel of an order that rests, Change to fewer, Change to another order. Conditions: the pit lies in memory, fewer than 100000 orders rest, for another order: no book trades. -/
namespace Go.Proofs.YtigpgnjgmaoejaaGreat
open Go.RowKit

set_option maxRecDepth 100000 in
set_option maxHeartbeats 4000000 in
theorem turns_cancel (bp : Nat) (v : Value) (s : Ref) (c : Cmd) (w : World) (hr : RefAt w bp v s) (hn : s.L.length ≤ 100000) (hok : turnOk c = true)
    (i : Nat) (hi : i < s.L.length) (hk : findO s.L c.id = some i) (heq : s.L[i].trader = c.trader) (hwh : c.what ≠ 3) :
    Calls Tryz.prog 59 #[.pointer (some ⟨bp, 0, none⟩), c.val] w fun e w' => ∃ r v', e = .returned r ∧
      RefOut w w' bp v v' { s with L := s.L.eraseIdx i } r [goneE s.L[i].id s.L[i].opn] := by
  have HR := hide hr
  have hbp := hr.lt
  have hL := hr.cellL
  obtain ⟨a, cap, rfl⟩ := hr.form
  obtain ⟨h1, h2, _⟩ := turnOk_parts hok
  obtain ⟨cw, cid, ct, cb, cs, ck, cp, cc⟩ := c
  unfold Cmd.val
  simp only at *
  obtain ⟨g, rfl, hg, _, hc0, hc1, hc2, hc3, hc4, hc5, _⟩ := os_at hr.own i hi
  have HK := hide hk
  have hne' : (s.L[i].trader != ct) = false := by simpa using heq
  have hi0 : decide ((i : Int) < 0) = false := by simp
  have hin : (i : Int) < s.L.length := by omega
  have h4 : (cw == 3) = false := by simpa using hwh
  clear hk hok hr heq hwh
  go_enter Tryz.func59, Tryz.ntmps59
  go_wp2_with (first
    | (go_at_call 57; refine (in_any _ _ _ _).mono ?_; rintro e w1 ⟨rfl, rfl⟩)
    | (go_at_call 113; refine (find_any bp _ s _ _ ((unhide HR).no ((Fr.refl _ _).alloc _)) hn).mono ?_; rintro e w1 ⟨rfl, rfl⟩; rw [unhide HK, show enc (some i) = (i : Int) from rfl]))
  go_quiet (fail)
  go_wp2_with fail
  generalize hW : World.alloc (World.drewN _ nq) _ = W
  have hWf : Fr No w W := by rw [← hW]; exact (((Fr.refl _ _).alloc _).drewN _).alloc _
  have HWS : Hid (W.heap.size = w.heap.size + 2) := by show _ = _; rw [← hW]; simp
  have hWc : W.heap[w.heap.size]? = some (.cells #[.int .i64 cw, .int .i64 cid, .int .i64 ct, .int .i64 cb, .int .i64 cs, .int .i64 ck, .int .i64 cp, .int .i64 cc] 31 (0, 0)) := by
    rw [← hW]; exact (((Fr.refl No _).drewN _).alloc _).heap (heap_alloc_new w _) id
  have hWx : W.heap[w.heap.size + 1]? = some (.cells #[.int .i64 s.L[i].id, .int .i64 s.L[i].trader, .int .i64 s.L[i].book, .int .i64 s.L[i].side, .int .i64 s.L[i].price, .int .i64 s.L[i].opn] 95 (0, 0)) := by
    rw [← hW]; exact heap_newAt _ _ (by simp)
  clear hW
  have hne1 : ¬ Is bp w.heap.size := fun e => by have : w.heap.size = bp := e; omega
  have hne2 : ¬ Is bp (w.heap.size + 1) := fun e => by have : w.heap.size + 1 = bp := e; omega
  refine (drop_any bp _ s i W ((unhide HR).no hWf) hn).mono ?_
  rintro e w1 ⟨rfl, v1, hr1, hf1, hv1⟩
  obtain ⟨hy0, hy1, hy2, hy3, hy4, hy5, hy6, hy7, _⟩ := box8 (hf1.heap hWc hne1)
  obtain ⟨hx0, hx1, hx2, hx3, hx4, hx5, _⟩ := box6 (hf1.heap hWx hne2)
  have hsz := hf1.size
  have HH := hide (And.intro hWf (And.intro hr1 (And.intro hf1 hv1)))
  have HC := hide (And.intro (hf1.heap hWc hne1) (hf1.heap hWx hne2))
  clear hWf hr1 hf1 hv1 hWc hWx hL hc0 hc1 hc2 hc3 hc4 hc5
  go_wp2_with (go_at_call 119; refine (gone_any _ _ _).mono ?_; rintro e w2 ⟨rfl, hf2⟩; unfold goneE Ev.val; obtain ⟨hz0, _⟩ := box8 (hf2.heap (unhide HC).1 id); have hsz2 := hf2.size; have hsz3 : w.heap.size < w2.heap.size := by have := unhide HWS; omega)
  go_ret
  obtain ⟨hWf, hr1, hf1, hv1⟩ := unhide HH
  have hWS := unhide HWS
  refine ⟨_, v1, rfl, ⟨hr1.no (hf2.alloc _), ?_, ?_, es_newAt (goneE s.L[i].id s.L[i].opn) rfl (by omega), ?_⟩⟩
  · exact ((hWf.of_no.same (hf1.mono fun k _ hk => Or.inl hk)).quiet hf2).alloc _
  · exact fun g hg => .inr (by have := hv1 g hg; omega)
  · intro g hg hg'
    have := own_eq hg
    have := (hr1.own.lt g hg').2
    omega
end Go.Proofs.YtigpgnjgmaoejaaGreat
