/- Contract of a side's put. Conditions: the side's list lies in memory, and fewer than 100000 orders rest there. -/
import Derived.Test.YtigpgnjgmaoejaaGreatProgC
import Derived.Test.YtigpgnjgmaoejaaGreatMarts
import Derived.Test.YtigpgnjgmaoejaaGreatLawB
namespace Go.Proofs.YtigpgnjgmaoejaaGreat
open Go.RowKit

theorem placeO_le (s p : Int) (M : List Ord) : placeO s p M ≤ M.length := placeTo_le s p M M.length
/-- What is at hand behind the order's box. -/
structure PutMid (W0 : World) (b o : Nat) (c : Array Value) (sd : Int) (v : Value) (M : List Ord) : Prop where
  s : SideIn W0 b o c sd v M
  sd : sd = 1 ∨ sd = 2
  len : M.length < 100000

theorem PutMid.cell {W0 : World} {b o : Nat} {c : Array Value} {sd : Int} {v : Value} {M : List Ord} (h : PutMid W0 b o c sd v M) {w : World} (hf : Fr No W0 w) : w.cell? ⟨b, o, none⟩ = some v := (h.s.no hf).at_.cel
theorem PutMid.place {W0 : World} {b o : Nat} {c : Array Value} {sd : Int} {v : Value} {M : List Ord} (h : PutMid W0 b o c sd v M) (p : Int) {w : World} (hf : Fr No W0 w) :
    Calls Tryz.prog 160 #[.pointer (some ⟨b, o, none⟩), .int .i64 p] w fun e w' => e = .returned (.int .i64 (placeO sd p M : Nat)) ∧ w' = w :=
  place_any sd h.sd b o v M p w (h.s.no hf).at_ ((cell_heap (h.s.no hf).blk _).trans (h.s.no hf).bts) (by have := h.len; omega)
theorem PutMid.insert {W0 : World} {b o : Nat} {c : Array Value} {sd : Int} {v : Value} {M : List Ord} (h : PutMid W0 b o c sd v M) (x : Ord) {w : World} (hf : Fr No W0 w) (vb : Nat) (hvb : vb = W0.heap.size)
    (hx : w.heap[vb]? = some (.cells x.cells.toArray 95 (0, 0))) :
    Calls Tryz.prog 159 #[v, .int .i64 (placeO sd x.price M : Nat), .slice (some ⟨vb, 0, none⟩) 1 1] w fun e w' => ∃ v', e = .returned v' ∧ Hid (Os w' 0 v' (putO sd x M) ∧ Fr (OwnS v) W0 w' ∧ ∀ g, OwnS v' g → OwnS v g ∨ W0.heap.size ≤ g) ∧ w'.cell? ⟨b, o, none⟩ = some v ∧ w'.frozen? ⟨b, o, none⟩ = false := by
  have hs := h.s.no hf
  refine (insert_any 0 v M _ x vb w hs.own (placeO_le _ _ _) (by have := h.len; omega) (Nat.zero_le _) hx (fun e => by have := (h.s.own.lt _ e).2; omega)).mono ?_
  rintro e w2 ⟨v2, rfl, ho2, hf2, hn2⟩
  have hb2 := hf2.heap hs.blk hs.apart
  exact ⟨v2, rfl, ⟨ho2, Fr.same hf.of_no hf2, fun g hg => (hn2 g hg).imp id fun h => Nat.le_trans hf.size h⟩, (cell_heap hb2 o).trans hs.cel, frozen_heap hb2 o⟩
theorem PutMid.done {w W0 : World} {b o : Nat} {c : Array Value} {sd : Int} {v : Value} {M : List Ord} (h : PutMid W0 b o c sd v M) (h0 : Fr No w W0) {x : Ord} {v2 : Value} {w2 : World}
    (h2 : Hid (Os w2 0 v2 (putO sd x M) ∧ Fr (OwnS v) W0 w2 ∧ ∀ g, OwnS v2 g → OwnS v g ∨ W0.heap.size ≤ g)) : ∃ v', SideTo w (w2.setCell ⟨b, o, none⟩ v2) b o c v v' (putO sd x M) := by
  obtain ⟨ho2, hf2, hn2⟩ := unhide h2
  have hb2 := hf2.heap h.s.blk h.s.apart
  have hf := Fr.same h0.of_no hf2
  have hvb : ∀ g, OwnS v2 g → g ≠ b := fun g hg e => by
    rcases hn2 g hg with h1 | h1
    · exact h.s.apart (e ▸ h1)
    · have := h.s.lt; omega
  exact ⟨v2, heap_set hb2 o _, own_fr ho2 ((Fr.refl (Is b) _).setAt b (.inr rfl) o _) (fun g hg => hvb g hg), (hf.mono fun _ _ h => .inr h).setAt b (.inr (.inl rfl)) o _, fun g hg => (hn2 g hg).imp id fun h => Nat.le_trans h0.size h⟩

set_option maxHeartbeats 4000000 in
set_option maxRecDepth 20000 in
theorem put_any (b o : Nat) (c : Array Value) (sd : Int) (hsd : sd = 1 ∨ sd = 2) (v : Value) (M : List Ord) (x : Ord) (w : World) (h : SideIn w b o c sd v M) (hn : M.length < 100000) :
    Calls Tryz.prog 134 #[.pointer (some ⟨b, o, none⟩), x.val] w fun e w' => e = .returned (.tuple #[]) ∧ ∃ v', SideTo w w' b o c v v' (putO sd x M) := by
  have hL := h.at_.cel
  have HS := hide h
  have hb := h.lt
  clear h
  obtain ⟨xid, xt, xb, xs, xp, xo⟩ := x
  unfold Ord.val
  simp only
  go_enter Tryz.func134, Tryz.ntmps134
  go_wp2
  generalize hW0 : World.alloc w _ = W0
  have hf0 : Fr No w W0 := by rw [← hW0]; exact (Fr.refl _ _).alloc _
  have hx0 : W0.heap[w.heap.size]? = some (.cells (Ord.cells ⟨xid, xt, xb, xs, xp, xo⟩).toArray 95 (0, 0)) := by rw [← hW0]; exact heap_alloc_new w _
  have hs0 : w.heap.size < W0.heap.size := by rw [← hW0]; simp
  clear hW0
  obtain ⟨y0, y1, y2, y3, y4, y5, _⟩ := box6 hx0
  have HP : Hid (PutMid W0 b o c sd v M) := ⟨(unhide HS).no hf0, hsd, hn⟩
  have hL0 := (unhide HP).cell (Fr.refl _ _)
  have hb0 : b < W0.heap.size := by omega
  have HF0 := hide hf0
  have HX0 := hide hx0
  generalize hN : w.heap.size = N at *
  clear hf0 hL hx0 hsd hn
  generalize hR : placeO sd xp M = R at *
  have HR := hide hR
  clear hR
  refine wp_region_held_drew (S := (fun w' : World => w'.cell? ⟨N, 0, none⟩ = some (.int .i64 xid) ∧ w'.cell? ⟨N, 1, none⟩ = some (.int .i64 xt) ∧ w'.cell? ⟨N, 2, none⟩ = some (.int .i64 xb) ∧ w'.cell? ⟨N, 3, none⟩ = some (.int .i64 xs) ∧ w'.cell? ⟨N, 4, none⟩ = some (.int .i64 xp) ∧ w'.cell? ⟨N, 5, none⟩ = some (.int .i64 xo))) (by kernel_rfl) (by go_simp) (fun hHeld => ?_)
  refine wpAnyH_take (i := 0) (v := ?_) rfl (by kernel_rfl) (by kernel_rfl) (by kernel_rfl) (fun _ _ _ h => h) (Or.inl ⟨by rfl, ?_⟩) (by assumption) ?_
  rotate_left
  · intro w hSw
    (try dsimp only at hSw)
    go_simp
    try with_reducible rfl
  (try simp only [putLaws])
  refine wpAnyH_take (i := 1) (v := ?_) rfl (by kernel_rfl) (by kernel_rfl) (by kernel_rfl) (fun _ _ _ h => h) (Or.inl ⟨by rfl, ?_⟩) (by assumption) ?_
  rotate_left
  · intro w hSw
    (try dsimp only at hSw)
    go_simp
    try with_reducible rfl
  (try simp only [putLaws])
  refine wpAnyH_take (i := 2) (v := ?_) rfl (by kernel_rfl) (by kernel_rfl) (by kernel_rfl) (fun _ _ _ h => h) (Or.inl ⟨by rfl, ?_⟩) (by assumption) ?_
  rotate_left
  · intro w hSw
    (try dsimp only at hSw)
    go_simp
    try with_reducible rfl
  (try simp only [putLaws])
  refine wpAnyH_take (i := 3) (v := ?_) rfl (by kernel_rfl) (by kernel_rfl) (by kernel_rfl) (fun _ _ _ h => h) (Or.inl ⟨by rfl, ?_⟩) (by assumption) ?_
  rotate_left
  · intro w hSw
    (try dsimp only at hSw)
    go_simp
    try with_reducible rfl
  (try simp only [putLaws])
  refine wpAnyH_take (i := 5) (v := ?_) rfl (by kernel_rfl) (by kernel_rfl) (by kernel_rfl) (fun _ _ _ h => h) (Or.inl ⟨by rfl, ?_⟩) (by assumption) ?_
  rotate_left
  · intro w hSw
    (try dsimp only at hSw)
    go_simp
    try with_reducible rfl
  (try simp only [putLaws])
  refine wpAnyH_take (i := 6) (v := ?_) rfl (by kernel_rfl) (by kernel_rfl) (by kernel_rfl) (fun _ _ _ h => h) (Or.inl ⟨by rfl, ?_⟩) (by assumption) ?_
  rotate_left
  · intro w hSw
    (try dsimp only at hSw)
    go_simp
    try with_reducible rfl
  (try simp only [putLaws])
  refine wpAnyH_take (i := 7) (v := ?_) rfl (by kernel_rfl) (by kernel_rfl) (by kernel_rfl) (fun _ _ _ h => h) (Or.inl ⟨by rfl, ?_⟩) (by assumption) ?_
  rotate_left
  · intro w hSw
    (try dsimp only at hSw)
    go_simp
    try with_reducible rfl
  (try simp only [putLaws])
  refine wpAnyH_take (i := 9) (v := ?_) rfl (by kernel_rfl) (by kernel_rfl) (by kernel_rfl) (fun _ _ _ h => h) (Or.inl ⟨by rfl, ?_⟩) (by assumption) ?_
  rotate_left
  · intro w hSw
    (try dsimp only at hSw)
    go_simp
    try with_reducible rfl
  (try simp only [putLaws])
  refine wpAnyH_ready (rs := [4, 8, 10]) (by kernel_rfl) (by simp) ?_
  refine AllReadyH.cons rfl (fun K hK => ?_) (AllReadyH.cons rfl (fun K hK => ?_) (AllReadyH.cons rfl (fun K hK => ?_) AllReadyH.nil))
  · go_simp
    refine hK.out _ _ ?_ (fun hHeld => ?_)
    · (try dsimp only)
      first | go_keep | go_simp
    clear hK K
    (try simp only [putLaws])
    refine wpAnyH_ready (rs := [8, 10]) (by kernel_rfl) (by simp) ?_
    refine AllReadyH.cons rfl (fun K hK => ?_) (AllReadyH.cons rfl (fun K hK => ?_) AllReadyH.nil)
    · go_simp
      go_at_call 160
      refine ((unhide HP).place xp (by repeat (first | exact Fr.refl _ _ | refine Fr.drew ?_ | refine Fr.alloc ?_ _))).mono ?_
      rintro e wp ⟨rfl, rfl⟩
      rw [unhide HR]
      go_wp2_with fail
      refine hK.out _ _ ?_ (fun hHeld => ?_)
      · (try dsimp only)
        first | go_keep | go_simp
      clear hK K
      (try simp only [putLaws])
      refine wpAnyH_ready (rs := [10]) (by kernel_rfl) (by simp) ?_
      refine AllReadyH.cons rfl (fun K hK => ?_) AllReadyH.nil
      go_simp
      refine hK.out _ _ ?_ (fun hHeld => ?_)
      · (try dsimp only)
        first | go_keep | go_simp
      clear hK K
      (try simp only [putLaws])
      refine wpAnyH_ready (rs := [11]) (by kernel_rfl) (by simp) ?_
      refine AllReadyH.cons rfl (fun K hK => ?_) AllReadyH.nil
      go_simp
      go_at_call 159
      rw [← unhide HR]
      refine ((unhide HP).insert ⟨xid, xt, xb, xs, xp, xo⟩ (by repeat (first | exact Fr.refl _ _ | refine Fr.drew ?_ | refine Fr.alloc ?_ _)) _ rfl (by exact heap_newAt _ _ rfl)).mono ?_
      rintro e w2 ⟨v2, rfl, hI, hc2, hz2⟩
      obtain ⟨a2, c2, hv2, -⟩ := own_form (unhide hI).1
      subst hv2
      have hxx := (unhide hI).2.1.heap (unhide HX0) (fun e => by have := ((unhide HS).own.lt _ e).2; omega)
      obtain ⟨q0, q1, q2, q3, q4, q5, _⟩ := box6 hxx
      clear hxx
      go_wp2_with fail
      refine hK.out _ _ ?_ (fun hHeld => ?_)
      · (try dsimp only)
        first | go_keep | go_simp
      clear hK K
      (try simp only [putLaws])
      refine wpAnyH_take (i := 12) (v := ?_) rfl (by kernel_rfl) (by kernel_rfl) (by kernel_rfl) (fun _ _ _ h => h) (Or.inl ⟨by rfl, ?_⟩) (by assumption) ?_
      rotate_left
      · intro w hSw
        (try dsimp only at hSw)
        go_simp
        try with_reducible rfl
      (try simp only [putLaws])
      refine wpAnyH_take (i := 13) (v := ?_) rfl (by kernel_rfl) (by kernel_rfl) (by kernel_rfl) (fun _ _ _ h => h) (Or.inl ⟨by rfl, ?_⟩) (by assumption) ?_
      rotate_left
      · intro w hSw
        (try dsimp only at hSw)
        go_simp
        try with_reducible rfl
      (try simp only [putLaws])
      refine wpAnyH_ready (rs := [14]) (by kernel_rfl) (by simp) ?_
      refine AllReadyH.cons rfl (fun K hK => ?_) AllReadyH.nil
      go_simp
      refine hK.out _ _ ?_ (fun hHeld => ?_)
      · (try dsimp only)
        first | go_keep | go_simp
      clear hK K
      (try simp only [putLaws])
      refine wpAnyH_done (by kernel_rfl) ?_ _
      go_end0
      exact ⟨rfl, (unhide HP).done (unhide HF0) hI⟩
    · go_simp
      refine hK.out _ _ ?_ (fun hHeld => ?_)
      · (try dsimp only)
        first | go_keep | go_simp
      clear hK K
      (try simp only [putLaws])
      refine wpAnyH_ready (rs := [8]) (by kernel_rfl) (by simp) ?_
      refine AllReadyH.cons rfl (fun K hK => ?_) AllReadyH.nil
      go_simp
      go_at_call 160
      refine ((unhide HP).place xp (by repeat (first | exact Fr.refl _ _ | refine Fr.drew ?_ | refine Fr.alloc ?_ _))).mono ?_
      rintro e wp ⟨rfl, rfl⟩
      rw [unhide HR]
      go_wp2_with fail
      refine hK.out _ _ ?_ (fun hHeld => ?_)
      · (try dsimp only)
        first | go_keep | go_simp
      clear hK K
      (try simp only [putLaws])
      refine wpAnyH_ready (rs := [11]) (by kernel_rfl) (by simp) ?_
      refine AllReadyH.cons rfl (fun K hK => ?_) AllReadyH.nil
      go_simp
      go_at_call 159
      rw [← unhide HR]
      refine ((unhide HP).insert ⟨xid, xt, xb, xs, xp, xo⟩ (by repeat (first | exact Fr.refl _ _ | refine Fr.drew ?_ | refine Fr.alloc ?_ _)) _ rfl (by exact heap_newAt _ _ rfl)).mono ?_
      rintro e w2 ⟨v2, rfl, hI, hc2, hz2⟩
      obtain ⟨a2, c2, hv2, -⟩ := own_form (unhide hI).1
      subst hv2
      have hxx := (unhide hI).2.1.heap (unhide HX0) (fun e => by have := ((unhide HS).own.lt _ e).2; omega)
      obtain ⟨q0, q1, q2, q3, q4, q5, _⟩ := box6 hxx
      clear hxx
      go_wp2_with fail
      refine hK.out _ _ ?_ (fun hHeld => ?_)
      · (try dsimp only)
        first | go_keep | go_simp
      clear hK K
      (try simp only [putLaws])
      refine wpAnyH_take (i := 12) (v := ?_) rfl (by kernel_rfl) (by kernel_rfl) (by kernel_rfl) (fun _ _ _ h => h) (Or.inl ⟨by rfl, ?_⟩) (by assumption) ?_
      rotate_left
      · intro w hSw
        (try dsimp only at hSw)
        go_simp
        try with_reducible rfl
      (try simp only [putLaws])
      refine wpAnyH_take (i := 13) (v := ?_) rfl (by kernel_rfl) (by kernel_rfl) (by kernel_rfl) (fun _ _ _ h => h) (Or.inl ⟨by rfl, ?_⟩) (by assumption) ?_
      rotate_left
      · intro w hSw
        (try dsimp only at hSw)
        go_simp
        try with_reducible rfl
      (try simp only [putLaws])
      refine wpAnyH_ready (rs := [14]) (by kernel_rfl) (by simp) ?_
      refine AllReadyH.cons rfl (fun K hK => ?_) AllReadyH.nil
      go_simp
      refine hK.out _ _ ?_ (fun hHeld => ?_)
      · (try dsimp only)
        first | go_keep | go_simp
      clear hK K
      (try simp only [putLaws])
      refine wpAnyH_done (by kernel_rfl) ?_ _
      go_end0
      exact ⟨rfl, (unhide HP).done (unhide HF0) hI⟩
  · go_simp
    go_at_call 160
    refine ((unhide HP).place xp (by repeat (first | exact Fr.refl _ _ | refine Fr.drew ?_ | refine Fr.alloc ?_ _))).mono ?_
    rintro e wp ⟨rfl, rfl⟩
    rw [unhide HR]
    go_wp2_with fail
    refine hK.out _ _ ?_ (fun hHeld => ?_)
    · (try dsimp only)
      first | go_keep | go_simp
    clear hK K
    (try simp only [putLaws])
    refine wpAnyH_ready (rs := [4, 10]) (by kernel_rfl) (by simp) ?_
    refine AllReadyH.cons rfl (fun K hK => ?_) (AllReadyH.cons rfl (fun K hK => ?_) AllReadyH.nil)
    · go_simp
      refine hK.out _ _ ?_ (fun hHeld => ?_)
      · (try dsimp only)
        first | go_keep | go_simp
      clear hK K
      (try simp only [putLaws])
      refine wpAnyH_ready (rs := [10]) (by kernel_rfl) (by simp) ?_
      refine AllReadyH.cons rfl (fun K hK => ?_) AllReadyH.nil
      go_simp
      refine hK.out _ _ ?_ (fun hHeld => ?_)
      · (try dsimp only)
        first | go_keep | go_simp
      clear hK K
      (try simp only [putLaws])
      refine wpAnyH_ready (rs := [11]) (by kernel_rfl) (by simp) ?_
      refine AllReadyH.cons rfl (fun K hK => ?_) AllReadyH.nil
      go_simp
      go_at_call 159
      rw [← unhide HR]
      refine ((unhide HP).insert ⟨xid, xt, xb, xs, xp, xo⟩ (by repeat (first | exact Fr.refl _ _ | refine Fr.drew ?_ | refine Fr.alloc ?_ _)) _ rfl (by exact heap_newAt _ _ rfl)).mono ?_
      rintro e w2 ⟨v2, rfl, hI, hc2, hz2⟩
      obtain ⟨a2, c2, hv2, -⟩ := own_form (unhide hI).1
      subst hv2
      have hxx := (unhide hI).2.1.heap (unhide HX0) (fun e => by have := ((unhide HS).own.lt _ e).2; omega)
      obtain ⟨q0, q1, q2, q3, q4, q5, _⟩ := box6 hxx
      clear hxx
      go_wp2_with fail
      refine hK.out _ _ ?_ (fun hHeld => ?_)
      · (try dsimp only)
        first | go_keep | go_simp
      clear hK K
      (try simp only [putLaws])
      refine wpAnyH_take (i := 12) (v := ?_) rfl (by kernel_rfl) (by kernel_rfl) (by kernel_rfl) (fun _ _ _ h => h) (Or.inl ⟨by rfl, ?_⟩) (by assumption) ?_
      rotate_left
      · intro w hSw
        (try dsimp only at hSw)
        go_simp
        try with_reducible rfl
      (try simp only [putLaws])
      refine wpAnyH_take (i := 13) (v := ?_) rfl (by kernel_rfl) (by kernel_rfl) (by kernel_rfl) (fun _ _ _ h => h) (Or.inl ⟨by rfl, ?_⟩) (by assumption) ?_
      rotate_left
      · intro w hSw
        (try dsimp only at hSw)
        go_simp
        try with_reducible rfl
      (try simp only [putLaws])
      refine wpAnyH_ready (rs := [14]) (by kernel_rfl) (by simp) ?_
      refine AllReadyH.cons rfl (fun K hK => ?_) AllReadyH.nil
      go_simp
      refine hK.out _ _ ?_ (fun hHeld => ?_)
      · (try dsimp only)
        first | go_keep | go_simp
      clear hK K
      (try simp only [putLaws])
      refine wpAnyH_done (by kernel_rfl) ?_ _
      go_end0
      exact ⟨rfl, (unhide HP).done (unhide HF0) hI⟩
    · go_simp
      refine hK.out _ _ ?_ (fun hHeld => ?_)
      · (try dsimp only)
        first | go_keep | go_simp
      clear hK K
      (try simp only [putLaws])
      refine wpAnyH_ready (rs := [4]) (by kernel_rfl) (by simp) ?_
      refine AllReadyH.cons rfl (fun K hK => ?_) AllReadyH.nil
      go_simp
      refine hK.out _ _ ?_ (fun hHeld => ?_)
      · (try dsimp only)
        first | go_keep | go_simp
      clear hK K
      (try simp only [putLaws])
      refine wpAnyH_ready (rs := [11]) (by kernel_rfl) (by simp) ?_
      refine AllReadyH.cons rfl (fun K hK => ?_) AllReadyH.nil
      go_simp
      go_at_call 159
      rw [← unhide HR]
      refine ((unhide HP).insert ⟨xid, xt, xb, xs, xp, xo⟩ (by repeat (first | exact Fr.refl _ _ | refine Fr.drew ?_ | refine Fr.alloc ?_ _)) _ rfl (by exact heap_newAt _ _ rfl)).mono ?_
      rintro e w2 ⟨v2, rfl, hI, hc2, hz2⟩
      obtain ⟨a2, c2, hv2, -⟩ := own_form (unhide hI).1
      subst hv2
      have hxx := (unhide hI).2.1.heap (unhide HX0) (fun e => by have := ((unhide HS).own.lt _ e).2; omega)
      obtain ⟨q0, q1, q2, q3, q4, q5, _⟩ := box6 hxx
      clear hxx
      go_wp2_with fail
      refine hK.out _ _ ?_ (fun hHeld => ?_)
      · (try dsimp only)
        first | go_keep | go_simp
      clear hK K
      (try simp only [putLaws])
      refine wpAnyH_take (i := 12) (v := ?_) rfl (by kernel_rfl) (by kernel_rfl) (by kernel_rfl) (fun _ _ _ h => h) (Or.inl ⟨by rfl, ?_⟩) (by assumption) ?_
      rotate_left
      · intro w hSw
        (try dsimp only at hSw)
        go_simp
        try with_reducible rfl
      (try simp only [putLaws])
      refine wpAnyH_take (i := 13) (v := ?_) rfl (by kernel_rfl) (by kernel_rfl) (by kernel_rfl) (fun _ _ _ h => h) (Or.inl ⟨by rfl, ?_⟩) (by assumption) ?_
      rotate_left
      · intro w hSw
        (try dsimp only at hSw)
        go_simp
        try with_reducible rfl
      (try simp only [putLaws])
      refine wpAnyH_ready (rs := [14]) (by kernel_rfl) (by simp) ?_
      refine AllReadyH.cons rfl (fun K hK => ?_) AllReadyH.nil
      go_simp
      refine hK.out _ _ ?_ (fun hHeld => ?_)
      · (try dsimp only)
        first | go_keep | go_simp
      clear hK K
      (try simp only [putLaws])
      refine wpAnyH_done (by kernel_rfl) ?_ _
      go_end0
      exact ⟨rfl, (unhide HP).done (unhide HF0) hI⟩
  · go_simp
    refine hK.out _ _ ?_ (fun hHeld => ?_)
    · (try dsimp only)
      first | go_keep | go_simp
    clear hK K
    (try simp only [putLaws])
    refine wpAnyH_ready (rs := [4, 8]) (by kernel_rfl) (by simp) ?_
    refine AllReadyH.cons rfl (fun K hK => ?_) (AllReadyH.cons rfl (fun K hK => ?_) AllReadyH.nil)
    · go_simp
      refine hK.out _ _ ?_ (fun hHeld => ?_)
      · (try dsimp only)
        first | go_keep | go_simp
      clear hK K
      (try simp only [putLaws])
      refine wpAnyH_ready (rs := [8]) (by kernel_rfl) (by simp) ?_
      refine AllReadyH.cons rfl (fun K hK => ?_) AllReadyH.nil
      go_simp
      go_at_call 160
      refine ((unhide HP).place xp (by repeat (first | exact Fr.refl _ _ | refine Fr.drew ?_ | refine Fr.alloc ?_ _))).mono ?_
      rintro e wp ⟨rfl, rfl⟩
      rw [unhide HR]
      go_wp2_with fail
      refine hK.out _ _ ?_ (fun hHeld => ?_)
      · (try dsimp only)
        first | go_keep | go_simp
      clear hK K
      (try simp only [putLaws])
      refine wpAnyH_ready (rs := [11]) (by kernel_rfl) (by simp) ?_
      refine AllReadyH.cons rfl (fun K hK => ?_) AllReadyH.nil
      go_simp
      go_at_call 159
      rw [← unhide HR]
      refine ((unhide HP).insert ⟨xid, xt, xb, xs, xp, xo⟩ (by repeat (first | exact Fr.refl _ _ | refine Fr.drew ?_ | refine Fr.alloc ?_ _)) _ rfl (by exact heap_newAt _ _ rfl)).mono ?_
      rintro e w2 ⟨v2, rfl, hI, hc2, hz2⟩
      obtain ⟨a2, c2, hv2, -⟩ := own_form (unhide hI).1
      subst hv2
      have hxx := (unhide hI).2.1.heap (unhide HX0) (fun e => by have := ((unhide HS).own.lt _ e).2; omega)
      obtain ⟨q0, q1, q2, q3, q4, q5, _⟩ := box6 hxx
      clear hxx
      go_wp2_with fail
      refine hK.out _ _ ?_ (fun hHeld => ?_)
      · (try dsimp only)
        first | go_keep | go_simp
      clear hK K
      (try simp only [putLaws])
      refine wpAnyH_take (i := 12) (v := ?_) rfl (by kernel_rfl) (by kernel_rfl) (by kernel_rfl) (fun _ _ _ h => h) (Or.inl ⟨by rfl, ?_⟩) (by assumption) ?_
      rotate_left
      · intro w hSw
        (try dsimp only at hSw)
        go_simp
        try with_reducible rfl
      (try simp only [putLaws])
      refine wpAnyH_take (i := 13) (v := ?_) rfl (by kernel_rfl) (by kernel_rfl) (by kernel_rfl) (fun _ _ _ h => h) (Or.inl ⟨by rfl, ?_⟩) (by assumption) ?_
      rotate_left
      · intro w hSw
        (try dsimp only at hSw)
        go_simp
        try with_reducible rfl
      (try simp only [putLaws])
      refine wpAnyH_ready (rs := [14]) (by kernel_rfl) (by simp) ?_
      refine AllReadyH.cons rfl (fun K hK => ?_) AllReadyH.nil
      go_simp
      refine hK.out _ _ ?_ (fun hHeld => ?_)
      · (try dsimp only)
        first | go_keep | go_simp
      clear hK K
      (try simp only [putLaws])
      refine wpAnyH_done (by kernel_rfl) ?_ _
      go_end0
      exact ⟨rfl, (unhide HP).done (unhide HF0) hI⟩
    · go_simp
      go_at_call 160
      refine ((unhide HP).place xp (by repeat (first | exact Fr.refl _ _ | refine Fr.drew ?_ | refine Fr.alloc ?_ _))).mono ?_
      rintro e wp ⟨rfl, rfl⟩
      rw [unhide HR]
      go_wp2_with fail
      refine hK.out _ _ ?_ (fun hHeld => ?_)
      · (try dsimp only)
        first | go_keep | go_simp
      clear hK K
      (try simp only [putLaws])
      refine wpAnyH_ready (rs := [4]) (by kernel_rfl) (by simp) ?_
      refine AllReadyH.cons rfl (fun K hK => ?_) AllReadyH.nil
      go_simp
      refine hK.out _ _ ?_ (fun hHeld => ?_)
      · (try dsimp only)
        first | go_keep | go_simp
      clear hK K
      (try simp only [putLaws])
      refine wpAnyH_ready (rs := [11]) (by kernel_rfl) (by simp) ?_
      refine AllReadyH.cons rfl (fun K hK => ?_) AllReadyH.nil
      go_simp
      go_at_call 159
      rw [← unhide HR]
      refine ((unhide HP).insert ⟨xid, xt, xb, xs, xp, xo⟩ (by repeat (first | exact Fr.refl _ _ | refine Fr.drew ?_ | refine Fr.alloc ?_ _)) _ rfl (by exact heap_newAt _ _ rfl)).mono ?_
      rintro e w2 ⟨v2, rfl, hI, hc2, hz2⟩
      obtain ⟨a2, c2, hv2, -⟩ := own_form (unhide hI).1
      subst hv2
      have hxx := (unhide hI).2.1.heap (unhide HX0) (fun e => by have := ((unhide HS).own.lt _ e).2; omega)
      obtain ⟨q0, q1, q2, q3, q4, q5, _⟩ := box6 hxx
      clear hxx
      go_wp2_with fail
      refine hK.out _ _ ?_ (fun hHeld => ?_)
      · (try dsimp only)
        first | go_keep | go_simp
      clear hK K
      (try simp only [putLaws])
      refine wpAnyH_take (i := 12) (v := ?_) rfl (by kernel_rfl) (by kernel_rfl) (by kernel_rfl) (fun _ _ _ h => h) (Or.inl ⟨by rfl, ?_⟩) (by assumption) ?_
      rotate_left
      · intro w hSw
        (try dsimp only at hSw)
        go_simp
        try with_reducible rfl
      (try simp only [putLaws])
      refine wpAnyH_take (i := 13) (v := ?_) rfl (by kernel_rfl) (by kernel_rfl) (by kernel_rfl) (fun _ _ _ h => h) (Or.inl ⟨by rfl, ?_⟩) (by assumption) ?_
      rotate_left
      · intro w hSw
        (try dsimp only at hSw)
        go_simp
        try with_reducible rfl
      (try simp only [putLaws])
      refine wpAnyH_ready (rs := [14]) (by kernel_rfl) (by simp) ?_
      refine AllReadyH.cons rfl (fun K hK => ?_) AllReadyH.nil
      go_simp
      refine hK.out _ _ ?_ (fun hHeld => ?_)
      · (try dsimp only)
        first | go_keep | go_simp
      clear hK K
      (try simp only [putLaws])
      refine wpAnyH_done (by kernel_rfl) ?_ _
      go_end0
      exact ⟨rfl, (unhide HP).done (unhide HF0) hI⟩
end Go.Proofs.YtigpgnjgmaoejaaGreat
