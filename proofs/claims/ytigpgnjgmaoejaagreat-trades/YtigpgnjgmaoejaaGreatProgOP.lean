/- Contracts of the program's events, of waits, and of a gathering book's Bars and Enter. Conditions: the book lies in memory and gathers. -/
import Derived.Test.YtigpgnjgmaoejaaGreatProgGN
import Derived.Test.YtigpgnjgmaoejaaGreatRefE
namespace Go.Proofs.YtigpgnjgmaoejaaGreat
open Go.RowKit

set_option maxHeartbeats 400000 in
theorem eTaken_any (x : Ord) (w : World) : Calls Tryz.prog 132 #[x.val] w fun e w' => e = .returned (takenE x.id x.opn).val ∧ Fr No w w' := by
  unfold Ord.val
  go_enter Tryz.func132, Tryz.ntmps132
  go_wp2
  exact bodyPost_ret (v := (takenE x.id x.opn).val) (by simp [results, Tryz.results132, go_sem, takenE, Ev.val]) rfl ⟨rfl, ((Fr.refl _ _).alloc _).alloc _⟩
set_option maxHeartbeats 400000 in
theorem eRests_any (x : Ord) (w : World) : Calls Tryz.prog 135 #[x.val] w fun e w' => e = .returned (restsE x.id x.price x.opn).val ∧ Fr No w w' := by
  unfold Ord.val
  go_enter Tryz.func135, Tryz.ntmps135
  go_wp2
  exact bodyPost_ret (v := (restsE x.id x.price x.opn).val) (by simp [results, Tryz.results135, go_sem, restsE, Ev.val]) rfl ⟨rfl, ((Fr.refl _ _).alloc _).alloc _⟩
set_option maxHeartbeats 400000 in
theorem eGone_any (x : Ord) (w : World) : Calls Tryz.prog 95 #[x.val] w fun e w' => e = .returned (goneO x).val ∧ Fr No w w' := by
  unfold Ord.val
  go_enter Tryz.func95, Tryz.ntmps95
  go_wp2
  exact bodyPost_ret (v := (goneO x).val) (by simp [results, Tryz.results95, go_sem, goneO, goneE, Ev.val]) rfl ⟨rfl, ((Fr.refl _ _).alloc _).alloc _⟩
set_option maxHeartbeats 400000 in
theorem eRefused_any (id n : Int) (w : World) : Calls Tryz.prog 103 #[.int .i64 id, .int .i64 n] w fun e w' => e = .returned (refusedE id n).val ∧ Fr No w w' := by
  go_enter Tryz.func103, Tryz.ntmps103
  go_wp2
  exact bodyPost_ret (v := (refusedE id n).val) (by simp [results, Tryz.results103, go_sem, refusedE, Ev.val]) rfl ⟨rfl, (Fr.refl _ _).alloc _⟩
set_option maxHeartbeats 400000 in
theorem pRefused_any (id n : Int) (w : World) : Calls Tryz.prog 50 #[.int .i64 id, .int .i64 n] w fun e w' => ∃ r, e = .returned r ∧ Es w' w.heap.size r [refusedE id n] ∧ Fr No w w' := by
  go_enter Tryz.func50, Tryz.ntmps50
  go_wp2_with (go_at_call 103; refine (eRefused_any _ _ _).mono ?_; rintro e w1 ⟨rfl, hf1⟩; have HF := hide hf1; clear hf1; unfold Ev.val refusedE)
  go_ret
  exact ⟨_, rfl, es_newAt (refusedE id n) rfl (unhide HF).size, (unhide HF).alloc _⟩
set_option maxHeartbeats 400000 in
theorem waits_any (k : Int) (w : World) : Calls Tryz.prog 130 #[.int .i64 k] w fun e w' => e = .returned (.bool (k == 1 || k == 5)) ∧ w' = w := by
  go_enter Tryz.func130, Tryz.ntmps130
  go_wp2
  all_goals go_ret
  all_goals exact ⟨retB (by simp_all), rfl⟩
set_option maxHeartbeats 400000 in
theorem facing_any (b : Nat) (s : Int) (hs : s = 1 ∨ s = 2) (w : World) : Calls Tryz.prog 152 #[.pointer (some ⟨b, 0, none⟩), .int .i64 s] w fun e w' => e = .returned (.pointer (some ⟨b, sAt (3 - s), none⟩)) ∧ w' = w := by
  rcases hs with rfl | rfl
  all_goals
    go_enter Tryz.func152, Tryz.ntmps152
    go_wp2_with (go_at_call 55; refine (bSide_any b _ (by first | exact .inl rfl | exact .inr rfl) _).mono ?_; rintro e w2 ⟨rfl, rfl⟩)
    go_ret
    exact ⟨rfl, rfl⟩
set_option maxHeartbeats 1000000 in
theorem mism_rest (b : Nat) (x : Ord) (hs : x.side = 1 ∨ x.side = 2) (w : World) : Calls Tryz.prog 129 #[.pointer (some ⟨b, 0, none⟩), x.val, .int .i64 1] w fun e w' => e = .returned (.bool false) ∧ Fr No w w' := by
  obtain ⟨xid, xt, xb, xs, xp, xo⟩ := x
  unfold Ord.val
  simp only at *
  go_enter Tryz.func129, Tryz.ntmps129
  go_wp2_with (go_at_call 152; refine (facing_any b _ hs _).mono ?_; rintro e w2 ⟨rfl, rfl⟩)
  go_ret
  exact ⟨rfl, (Fr.refl _ _).alloc _⟩

/-- Why a New may not come in, in a book that gathers. -/
def barsG (kind : Int) (M : Nat → List Ord) : Int := if kind ≠ 1 then 6 else if 200 ≤ (M 0).length + (M 1).length then 5 else 0
set_option maxHeartbeats 2000000 in
theorem bBars_gather (b bx : Nat) (td : Int) (v : Nat → Value) (M : Nat → List Ord) (x : Ord) (kind : Int) (hs : x.side = 1 ∨ x.side = 2) (w : World) (h : PB w b bx false td v M) :
    Calls Tryz.prog 91 #[.pointer (some ⟨b, 0, none⟩), x.val, .int .i64 kind] w fun e w' => e = .returned (.int .i64 (barsG kind M)) ∧ Fr No w w' := by
  obtain ⟨xid, xt, xb, xs, xp, xo⟩ := x
  have hp : w.cell? ⟨b, 0, none⟩ = some (.int .i64 1) := h.cells.1
  have hb := h.lt
  have HB := hide h
  clear h
  by_cases hk : kind = 1
  · subst hk
    obtain ⟨R, hR⟩ : ∃ R, decide (200 ≤ (M 0).length + (M 1).length) = R := ⟨_, rfl⟩
    have HR := hide hR
    have HG : Hid (barsG 1 M = if R = true then 5 else 0) := by
      show _ = _
      rw [← hR]
      simp [barsG]
    clear hR
    unfold Ord.val
    simp only at *
    go_enter Tryz.func91, Tryz.ntmps91
    go_wp2_with (first
      | (go_at_call 129; refine (mism_rest b ⟨xid, xt, xb, xs, xp, xo⟩ hs _).mono ?_; rintro e w2 ⟨rfl, hf2⟩; have HF := hide (Fr.quiet ((Fr.refl No w).alloc _) hf2); clear hf2)
      | (go_at_call 130; refine (waits_any _ _).mono ?_; rintro e w3 ⟨rfl, rfl⟩)
      | (go_at_call 131; refine (bFull_any b bx _ td v M _ ((unhide HB).no (unhide HF))).mono ?_; rintro e w4 ⟨rfl, rfl⟩; rw [unhide HR]))
    all_goals go_ret
    all_goals exact ⟨retI (by rw [unhide HG]; simp [*]), unhide HF⟩
  · have hkb : (kind != 1) = true := by simpa using hk
    have HG : Hid (barsG kind M = 6) := by show _ = _; simp [barsG, hk]
    unfold Ord.val
    simp only at *
    go_enter Tryz.func91, Tryz.ntmps91
    go_wp2_with fail
    go_ret
    exact ⟨retI (unhide HG).symm, (Fr.refl _ _).alloc _⟩
end Go.Proofs.YtigpgnjgmaoejaaGreat

/- Contract of a gathering book's Enter. Conditions: the book lies in memory and gathers; the order is open; at most 998 orders on a side. -/
namespace Go.Proofs.YtigpgnjgmaoejaaGreat
open Go.RowKit

theorem putO_len (sd : Int) (x : Ord) (M : List Ord) : (putO sd x M).length = M.length + 1 := by
  have := placeO_le sd x.price M
  simp [putO]; omega

theorem bput_any (b bx : Nat) (tr : Bool) (td : Int) (v : Nat → Value) (M : Nat → List Ord) (x : Ord) (hs : x.side = 1 ∨ x.side = 2) (w : World) (h : PB w b bx tr td v M) (hl : ∀ j, j < 2 → (M j).length < 1000) :
    Calls Tryz.prog 134 #[.pointer (some ⟨b, sAt x.side, none⟩), x.val] w fun e w' => e = .returned (.tuple #[]) ∧ ∃ v', BTo w w' b bx tr td v v' (putM x M) := by
  rcases hs with hs | hs
  · rw [hs]
    refine (put_any b 3 _ 1 (.inl rfl) (v 0) (M 0) x w h.side0 (by have := h.len 0 (by omega); omega)).mono ?_
    rintro e w' ⟨rfl, v', ht⟩
    exact ⟨rfl, h.bto0 ht (by rw [putO_len]; have := hl 0 (by omega); omega) (by simp [putM, hs]) (by simp [putM, hs])⟩
  · rw [hs]
    refine (put_any b 5 _ 2 (.inr rfl) (v 1) (M 1) x w h.side1 (by have := h.len 1 (by omega); omega)).mono ?_
    rintro e w' ⟨rfl, v', ht⟩
    exact ⟨rfl, h.bto1 ht (by rw [putO_len]; have := hl 1 (by omega); omega) (by simp [putM, hs]) (by simp [putM, hs])⟩

theorem PB.blt {w : World} {b bx : Nat} {tr : Bool} {td : Int} {v : Nat → Value} {M : Nat → List Ord} (h : PB w b bx tr td v M) : ∀ g, BS b v g → g < w.heap.size := by
  rintro g (rfl | hg | hg)
  · exact h.lt
  · exact ((h.own 0 (by omega)).lt g hg).2
  · exact ((h.own 1 (by omega)).lt g hg).2

set_option maxHeartbeats 4000000 in
set_option maxRecDepth 20000 in
theorem bEnter_gather (b bx : Nat) (td : Int) (v : Nat → Value) (M : Nat → List Ord) (x : Ord) (hs : x.side = 1 ∨ x.side = 2) (hop : x.opn ≠ 0) (w : World) (h : PB w b bx false td v M) (hl : ∀ j, j < 2 → (M j).length < 1000) :
    Calls Tryz.prog 92 #[.pointer (some ⟨b, 0, none⟩), x.val, .int .i64 1] w fun e w' => ∃ r v', e = .returned r ∧ Es w' w.heap.size r [takenE x.id x.opn, restsE x.id x.price x.opn] ∧ BTo w w' b bx false td v v' (putM x M) ∧ ∀ g, OwnS r g → ¬ BS b v' g := by
  have hbl := h.lt
  have hblt := h.blt
  have HB := hide h
  have HLT := hide hblt
  have HL := hide hl
  obtain ⟨xid, xt, xb, xs, xp, xo⟩ := x
  have hxo : (xo == 0) = false := by simpa using hop
  have HSD := hide hs
  clear h hblt hl hop hs
  unfold Ord.val
  simp only at *
  go_enter Tryz.func92, Tryz.ntmps92
  go_wp2_with fail
  generalize hW0 : World.alloc w _ = W0
  have hf0 : Fr No w W0 := by rw [← hW0]; exact (Fr.refl _ _).alloc _
  have hx0 : W0.heap[w.heap.size]? = some (.cells (Ord.cells ⟨xid, xt, xb, xs, xp, xo⟩).toArray 95 (0, 0)) := by rw [← hW0]; exact heap_alloc_new w _
  clear hW0
  refine (eTaken_any ⟨xid, xt, xb, xs, xp, xo⟩ W0).mono ?_
  rintro e w1 ⟨rfl, hf1'⟩
  have hf1 := hf0.quiet hf1'
  have hx1 := hf1'.heap hx0 id
  have hs1 := hf1'.size
  have hs0 := lt_of_heap hx0
  clear hf1' hx0 hf0
  have hB1 := (unhide HB).no hf1
  have hp1 : w1.cell? ⟨b, 0, none⟩ = some (.int .i64 1) := hB1.cells.1
  have hb1 : b < w1.heap.size := hB1.lt
  obtain ⟨y0, y1, y2, y3, y4, y5, _⟩ := box6 hx1
  have hN1 : w.heap.size < w1.heap.size := by omega
  have HF1 := hide hf1
  have HX1 := hide hx1
  generalize hNN : w.heap.size = N at *
  have HN := hide hNN
  clear hB1 hf1 hx1 hNN
  unfold takenE Ev.val
  simp only
  go_wp2_with (go_at_call 130; refine (waits_any _ _).mono ?_; rintro e w3 ⟨rfl, rfl⟩)
  generalize hW2 : World.alloc w1 _ = W2
  have hf2 : Fr No w1 W2 := by rw [← hW2]; exact (Fr.refl _ _).alloc _
  have he2 : W2.heap[w1.heap.size]? = some (.cells (Ev.cells (takenE xid xo)).toArray 42 (0, 0)) := by rw [← hW2]; exact heap_alloc_new w1 _
  have hs2 : w1.heap.size < W2.heap.size := lt_of_heap he2
  clear hW2
  have hx2 := hf2.heap (unhide HX1) id
  obtain ⟨z0, z1, z2, z3, z4, z5, _⟩ := box6 hx2
  have hB2 := ((unhide HB).no (unhide HF1)).no hf2
  have HB2 := hide (And.intro hB2 (And.intro hf2 (And.intro he2 hx2)))
  clear hB2 hf2 he2 hx2 y0 y1 y2 y3 y4 y5 hp1
  go_region_held3 (fun w' : World => w'.cell? ⟨N, 0, none⟩ = some (.int .i64 xid) ∧ w'.cell? ⟨N, 1, none⟩ = some (.int .i64 xt) ∧ w'.cell? ⟨N, 2, none⟩ = some (.int .i64 xb) ∧ w'.cell? ⟨N, 3, none⟩ = some (.int .i64 xs) ∧ w'.cell? ⟨N, 4, none⟩ = some (.int .i64 xp) ∧ w'.cell? ⟨N, 5, none⟩ = some (.int .i64 xo)) (go_keep)
    (first
      | (go_at_call 55; refine (bSide_any b _ (unhide HSD) _).mono ?_; rintro e w2 ⟨rfl, rfl⟩)
      | (go_at_call 134; refine (bput_any b bx false td v M ⟨xid, xt, xb, xs, xp, xo⟩ (unhide HSD) _ ((unhide HB2).1.no ((Fr.refl _ _).drew)) (unhide HL)).mono ?_; rintro e w3 ⟨rfl, v3, ht⟩; have hf3 : Fr (BS b v) W2 w3 := Fr.same ((Fr.refl _ _).drew) ht.fr; have hx3 := hf3.heap (unhide HB2).2.2.2 (fun e => by have := unhide HLT _ e; omega); have he3 := hf3.heap (unhide HB2).2.2.1 (fun e => by have := unhide HLT _ e; omega); obtain ⟨q0, q1, q2, q3, q4, q5, _⟩ := box6 hx3; have hs3 := hf3.size; have HT := hide (And.intro ht (And.intro hf3 he3)); clear ht hf3 hx3 he3))
  have hN3 : N < w3.heap.size := by omega
  go_wp2_with fail
  refine (eRests_any ⟨xid, xt, xb, xs, xp, xo⟩ w3).mono ?_
  rintro e w4 ⟨rfl, hf4⟩
  obtain ⟨ht, hf3, he3⟩ := unhide HT
  have hs4 := hf4.size
  have he4 := hf4.heap he3 id
  have hes : Es w4 N (.slice (some ⟨w1.heap.size, 0, none⟩) 1 1) [takenE xid xo] :=
    ⟨by simp [Ev.len], .inr ⟨w1.heap.size, 1, _, rfl, by omega, he4, Nat.le_refl _, by decide, by simp [Ev.len], by simp [Ev.cells]⟩⟩
  have HE := hide hes
  have HF4 := hide hf4
  clear ht hf3 he3 hf4 he4 hes
  unfold restsE Ev.val
  simp only
  go_wp2_with (at_builtin; refine app_ev rfl (.tmp 44) (.tmp 47) rfl N _ [takenE xid xo] (own_fr (S := No) (unhide HE) ((Fr.refl _ _).alloc _) (fun _ _ => id)) rfl ⟨w4.heap.size, 0, none⟩ 1 1 [restsE xid xp xo] rfl rfl (by simp) (new_cells w4 (restsE xid xp xo).cells _) (by simp) (by simp; omega) ?_; intro g5 c5 w5 hown5 hfr5 hat5 hlt5)
  go_ret
  obtain ⟨ht, hf3, _⟩ := unhide HT
  have hf4 := unhide HF4
  have hS : ∀ q, OwnS (.slice (some ⟨w1.heap.size, 0, none⟩) 1 1) q → q = w1.heap.size := fun q hq => (own_eq' hq).symm
  have hW23 := hf3.size
  have hB2 := (unhide HB2)
  have hnb : ∀ q, BS b v3 q → q ≠ w1.heap.size := fun q hq e => by
    rcases ht.new q hq with h | h
    · have := unhide HLT q h; omega
    · have : W2.heap.size ≤ q := h
      omega
  have hf45 : Fr (Is w1.heap.size) w3 w5 := Fr.trans (hf4.of_no.alloc _) hfr5 (fun q _ hq => hS q hq)
  have hpb5 := ht.pb.fr hf45 (fun q hq e => hnb q hq e)
  have hfw : Fr (BS b v) w w5 := by
    have h1 : Fr No w W2 := (unhide HF1).quiet hB2.2.1
    have h2 : Fr (BS b v) w w3 := h1.of_no.same hf3
    refine h2.trans hf45 (fun q hq e => ?_)
    have : q = w1.heap.size := e
    have := unhide HN
    omega
  refine ⟨_, v3, rfl, ?_, ⟨hpb5, hfw, fun q hq => ?_⟩, fun q hq hb => ?_⟩
  · rw [unhide HN]; exact hown5
  · rcases ht.new q hq with h | h
    · exact .inl h
    · right
      have h1 : W2.heap.size ≤ q := h
      have := unhide HN
      omega
  · have e := own_eq' hq
    subst e
    rcases hat5 with h | h
    · exact hnb _ hb (hS _ h)
    · have hlt := ht.pb.blt _ hb
      have : g5 = w4.heap.size + 1 := by simpa using h
      omega
end Go.Proofs.YtigpgnjgmaoejaaGreat
