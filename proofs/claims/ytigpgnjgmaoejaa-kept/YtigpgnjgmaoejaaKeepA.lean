/- Contracts of the statements' own pick and command. Conditions: the raw numbers are int64's. -/
import Derived.Test.YtigpgnjgmaoejaaDoE
namespace Go.Proofs.Ytigpgnjgmaoejaa
open Go.RowKit

def pickI (c n : Int) : Int := (if c < 0 then -(c + 1) else c) % n
theorem pickI_rng {c n : Int} (hn : 0 < n) : 0 ≤ pickI c n ∧ pickI c n < n := ⟨Int.emod_nonneg _ (by omega), Int.emod_lt_of_pos _ hn⟩
/-- A raw number is an int64. -/
def I64 (c : Int) : Prop := -9223372036854775808 ≤ c ∧ c ≤ 9223372036854775807

set_option maxHeartbeats 1000000 in
theorem pick_any (c n : Int) (w : World) (hc : I64 c) (hn : 0 < n ∧ n ≤ 1000000000) : Calls Try.prog 11 #[.int .i64 c, .int .i64 n] w fun e w' => e = .returned (.int .i64 (pickI c n)) ∧ w' = w := by
  obtain ⟨hc1, hc2⟩ := hc
  obtain ⟨hn1, hn2⟩ := hn
  by_cases h : c < 0
  · have hE : pickI c n = (-(c + 1)) % n := by unfold pickI; rw [if_pos h]
    rw [hE]
    clear hE
    go_enter Try.func11, Try.ntmps11
    go_wp2
    go_ret
    exact ⟨retI (by rw [← Int.neg_tmod]; exact Int.tmod_eq_emod_of_nonneg (by omega)), rfl⟩
  · have hE : pickI c n = c % n := by unfold pickI; rw [if_neg h]
    rw [hE]
    clear hE
    go_enter Try.func11, Try.ntmps11
    go_wp2
    go_ret
    exact ⟨rfl, rfl⟩

/-- A step's raw numbers. -/
structure Sp where
  what : Int
  trader : Int
  side : Int
  kind : Int
  price : Int
  count : Int
structure Sp.ok (s : Sp) : Prop where
  what : I64 s.what
  trader : I64 s.trader
  side : I64 s.side
  kind : I64 s.kind
  price : I64 s.price
  count : I64 s.count
def Sp.val (s : Sp) : Value := .agg #[.int .i64 s.what, .int .i64 s.trader, .int .i64 s.side, .int .i64 s.kind, .int .i64 s.price, .int .i64 s.count]
/-- The command of a step. -/
def baseC (s : Sp) (i books : Int) : Cmd := ⟨1, i + 1, 1 + pickI s.trader 4, 1 + pickI (s.trader.tdiv 4) books, 1 + pickI s.side 2, 1 + pickI s.kind 5, 100 + pickI s.price 12, 1 + pickI s.count 30⟩
def cmdOf (s : Sp) (i books : Int) : Cmd :=
  if pickI s.what 10 = 7 then { baseC s i books with what := 2, id := 1 + pickI s.kind (i + 1) }
  else if pickI s.what 10 = 8 then { baseC s i books with what := 3, id := 1 + pickI s.kind (i + 1) }
  else if pickI s.what 10 = 9 ∧ pickI s.side 4 = 0 then { baseC s i books with what := 4 }
  else baseC s i books
theorem I64.quo {c : Int} (h : I64 c) : I64 (c.tdiv 4) := by
  obtain ⟨h1, h2⟩ := h
  unfold I64
  rcases Int.lt_or_le c 0 with hc | hc
  · have e : c.tdiv 4 = -((-c) / 4) := by
      rw [← Int.tdiv_eq_ediv_of_nonneg (by omega), Int.neg_tdiv, Int.neg_neg]
    rw [e]
    omega
  · rw [Int.tdiv_eq_ediv_of_nonneg hc]
    omega
theorem quo_wrap {c : Int} (h : I64 c) : IntKind.i64.wrap (c.tdiv 4) = c.tdiv 4 := by
  have := h.quo
  unfold I64 at this
  rw [IntKind.wrap_i64]
  omega

theorem st8_heap {w : World} {b : Nat} {a0 a1 a2 a3 a4 a5 a6 a7 : Value} {T : TypeId} (h : w.heap[b]? = some (.cells #[a0, a1, a2, a3, a4, a5, a6, a7] T (0, 0))) (x0 x1 x2 x3 x4 x5 x6 x7 : Value) :
    ((((((((w.setCell ⟨b, 0, none⟩ x0).setCell ⟨b, 1, none⟩ x1).setCell ⟨b, 2, none⟩ x2).setCell ⟨b, 3, none⟩ x3).setCell ⟨b, 4, none⟩ x4).setCell ⟨b, 5, none⟩ x5).setCell ⟨b, 6, none⟩ x6).setCell ⟨b, 7, none⟩ x7).heap[b]? = some (.cells #[x0, x1, x2, x3, x4, x5, x6, x7] T (0, 0)) := by
  have h0 := (heap_set h 0 x0).trans (show _ = some (Obj.cells #[x0, a1, a2, a3, a4, a5, a6, a7] T (0, 0)) from rfl)
  have h1 := (heap_set h0 1 x1).trans (show _ = some (Obj.cells #[x0, x1, a2, a3, a4, a5, a6, a7] T (0, 0)) from rfl)
  have h2 := (heap_set h1 2 x2).trans (show _ = some (Obj.cells #[x0, x1, x2, a3, a4, a5, a6, a7] T (0, 0)) from rfl)
  have h3 := (heap_set h2 3 x3).trans (show _ = some (Obj.cells #[x0, x1, x2, x3, a4, a5, a6, a7] T (0, 0)) from rfl)
  have h4 := (heap_set h3 4 x4).trans (show _ = some (Obj.cells #[x0, x1, x2, x3, x4, a5, a6, a7] T (0, 0)) from rfl)
  have h5 := (heap_set h4 5 x5).trans (show _ = some (Obj.cells #[x0, x1, x2, x3, x4, x5, a6, a7] T (0, 0)) from rfl)
  have h6 := (heap_set h5 6 x6).trans (show _ = some (Obj.cells #[x0, x1, x2, x3, x4, x5, x6, a7] T (0, 0)) from rfl)
  exact (heap_set h6 7 x7).trans (show _ = some (Obj.cells #[x0, x1, x2, x3, x4, x5, x6, x7] T (0, 0)) from rfl)
theorem st8_fr {S : Nat → Prop} {a w : World} {b : Nat} (h : Fr S a w) (hb : a.heap.size ≤ b ∨ S b) (x0 x1 x2 x3 x4 x5 x6 x7 : Value) :
    Fr S a ((((((((w.setCell ⟨b, 0, none⟩ x0).setCell ⟨b, 1, none⟩ x1).setCell ⟨b, 2, none⟩ x2).setCell ⟨b, 3, none⟩ x3).setCell ⟨b, 4, none⟩ x4).setCell ⟨b, 5, none⟩ x5).setCell ⟨b, 6, none⟩ x6).setCell ⟨b, 7, none⟩ x7) := by
  have h0 := h.setAt b hb 0 x0
  have h1 := h0.setAt b hb 1 x1
  have h2 := h1.setAt b hb 2 x2
  have h3 := h2.setAt b hb 3 x3
  have h4 := h3.setAt b hb 4 x4
  have h5 := h4.setAt b hb 5 x5
  have h6 := h5.setAt b hb 6 x6
  exact h6.setAt b hb 7 x7
theorem wrap_small {c : Int} (h : -1000000000000 ≤ c ∧ c ≤ 1000000000000) : IntKind.i64.wrap c = c := by rw [IntKind.wrap_i64]; omega

set_option maxHeartbeats 8000000 in
set_option maxRecDepth 20000 in
theorem command_any (s : Sp) (i books : Int) (w : World) (hs : s.ok) (hi : 0 ≤ i ∧ i ≤ 1000) (hb : 0 < books ∧ books ≤ 8) :
    Calls Try.prog 9 #[s.val, .int .i64 i, .int .i64 books] w fun e w' => e = .returned (cmdOf s i books).val ∧ Fr No w w' := by
  obtain ⟨sw, st, ss, sk, sp, sc⟩ := s
  have hq := hs.trader.quo
  have hqw := quo_wrap hs.trader
  obtain ⟨k1, k2, k3, k4, k5, k6⟩ := hs
  simp only at *
  have HK := hide (And.intro k1 (And.intro k2 (And.intro k3 (And.intro k4 (And.intro k5 (And.intro k6 hq))))))
  have r4 := pickI_rng (c := st) (n := 4) (by omega)
  have rb := pickI_rng (c := st.tdiv 4) (n := books) hb.1
  have r2 := pickI_rng (c := ss) (n := 2) (by omega)
  have r5 := pickI_rng (c := sk) (n := 5) (by omega)
  have r12 := pickI_rng (c := sp) (n := 12) (by omega)
  have r30 := pickI_rng (c := sc) (n := 30) (by omega)
  have ri := pickI_rng (c := sk) (n := i + 1) (by omega)
  obtain ⟨X, hX⟩ : ∃ X, cmdOf ⟨sw, st, ss, sk, sp, sc⟩ i books = X := ⟨_, rfl⟩
  rw [hX]
  unfold cmdOf baseC at hX
  simp only at hX
  have HX := hide hX
  clear hX k1 k2 k3 k4 k5 k6 hq
  unfold Sp.val
  simp only
  go_enter Try.func9, Try.ntmps9
  go_wp2_with fail
  generalize hW : World.alloc (World.alloc w _) _ = W
  have hf : Fr No w W := by rw [← hW]; exact ((Fr.refl _ _).alloc _).alloc _
  have h1 : W.heap[w.heap.size]? = some (.cells #[.int .i64 sw, .int .i64 st, .int .i64 ss, .int .i64 sk, .int .i64 sp, .int .i64 sc] 34 (0, 0)) := by rw [← hW]; exact ((Fr.refl No _).alloc _).heap (heap_alloc_new w _) id
  have h2 : W.heap[w.heap.size + 1]? = some (.cells #[.int .i64 0, .int .i64 0, .int .i64 0, .int .i64 0, .int .i64 0, .int .i64 0, .int .i64 0, .int .i64 0] 28 (0, 0)) := by rw [← hW]; exact heap_newAt _ _ (by simp)
  clear hW
  have HF := hide (And.intro hf (And.intro h1 h2))
  obtain ⟨c0, c1, c2, c3, c4, c5, -⟩ := box6 h1
  have l1 := lt_of_heap h1
  have l2 := lt_of_heap h2
  have hNw := hf.size
  generalize hN : w.heap.size = N at *
  generalize hQ : N + 1 = Q at *
  have HN := hide (And.intro hN hQ)
  clear hf h1 h2 hN hQ
  have hi1 : IntKind.i64.wrap (i + 1) = i + 1 := wrap_small (by omega)
  have v1 := wrap_small (c := 1 + pickI st 4) (by omega)
  have v2 := wrap_small (c := 1 + pickI (st.tdiv 4) books) (by omega)
  have v3 := wrap_small (c := 1 + pickI ss 2) (by omega)
  have v4 := wrap_small (c := 1 + pickI sk 5) (by omega)
  have v5 := wrap_small (c := 100 + pickI sp 12) (by omega)
  have v6 := wrap_small (c := 1 + pickI sc 30) (by omega)
  have v7 := wrap_small (c := 1 + pickI sk (i + 1)) (by omega)
  have HXX := unhide HX
  generalize hx2 : 1 + pickI st 4 = x2 at *
  generalize hx3 : 1 + pickI (st.tdiv 4) books = x3 at *
  generalize hx4 : 1 + pickI ss 2 = x4 at *
  generalize hx5 : 1 + pickI sk 5 = x5 at *
  generalize hx6 : 100 + pickI sp 12 = x6 at *
  generalize hx7 : 1 + pickI sc 30 = x7 at *
  replace HX := hide HXX
  clear HXX
  go_cut [7] from 8 to 36 (fun s7 wx => s7 = .pointer (some ⟨W.heap.size, 0, none⟩) ∧ wx = (W.alloc (.cells #[.int .i64 1, .int .i64 (i + 1), .int .i64 x2, .int .i64 x3, .int .i64 x4, .int .i64 x5, .int .i64 x6, .int .i64 x7] 28)).drew)
  case first =>
    go_region_held3 (fun w' : World => w'.cell? ⟨N, 1, none⟩ = some (.int .i64 st) ∧ w'.cell? ⟨N, 2, none⟩ = some (.int .i64 ss) ∧ w'.cell? ⟨N, 3, none⟩ = some (.int .i64 sk) ∧ w'.cell? ⟨N, 4, none⟩ = some (.int .i64 sp) ∧ w'.cell? ⟨N, 5, none⟩ = some (.int .i64 sc)) (go_keep)
      (first | (go_at_call 11; refine (pick_any _ _ _ (by first | exact (unhide HK).1 | exact (unhide HK).2.1 | exact (unhide HK).2.2.1 | exact (unhide HK).2.2.2.1 | exact (unhide HK).2.2.2.2.1 | exact (unhide HK).2.2.2.2.2.1 | exact (unhide HK).2.2.2.2.2.2) (by omega)).mono ?_; rintro e w2 ⟨rfl, rfl⟩))
    all_goals go_wp2_with fail
    all_goals go_meet
    all_goals exact ⟨rfl, rfl⟩
  case rest =>
    obtain ⟨rfl, rfl⟩ := hcut
    have hQw : w.heap.size ≤ Q := by have := unhide HN; omega
    obtain ⟨q0, q1, q2, q3, q4, q5, q6, q7, hqf⟩ := box8 (unhide HF).2.2
    have f0 := hqf 0
    have f1 := hqf 1
    have f2 := hqf 2
    have f3 := hqf 3
    have f4 := hqf 4
    have f5 := hqf 5
    have f6 := hqf 6
    have f7 := hqf 7
    clear hqf hqw v1 v2 v3 v4 v5 v6 hx2 hx3 hx4 hx5 hx6 hx7
    go_wp2_with (go_at_call 11; refine (pick_any _ _ _ (by first | exact (unhide HK).1 | exact (unhide HK).2.1 | exact (unhide HK).2.2.1 | exact (unhide HK).2.2.2.1) (by omega)).mono ?_; rintro e w2 ⟨rfl, rfl⟩)
    · have hXe : X = ⟨2, 1 + pickI sk (i + 1), x2, x3, x4, x5, x6, x7⟩ := by rw [← unhide HX]; simp_all
      have hWb := st8_heap (unhide HF).2.2 (.int .i64 2) (.int .i64 (1 + pickI sk (i + 1))) (.int .i64 x2) (.int .i64 x3) (.int .i64 x4) (.int .i64 x5) (.int .i64 x6) (.int .i64 x7)
      have hWf := st8_fr (unhide HF).1 (.inl hQw) (.int .i64 2) (.int .i64 (1 + pickI sk (i + 1))) (.int .i64 x2) (.int .i64 x3) (.int .i64 x4) (.int .i64 x5) (.int .i64 x6) (.int .i64 x7)
      generalize World.setCell (World.setCell (World.setCell (World.setCell (World.setCell (World.setCell (World.setCell (World.setCell W ⟨Q, 0, none⟩ _) ⟨Q, 1, none⟩ _) ⟨Q, 2, none⟩ _) ⟨Q, 3, none⟩ _) ⟨Q, 4, none⟩ _) ⟨Q, 5, none⟩ _) ⟨Q, 6, none⟩ _) ⟨Q, 7, none⟩ _ = W3 at hWb hWf ⊢
      have hWb2 := Fr.heap ((Fr.refl No W3).alloc (.cells #[.int .i64 2, .int .i64 (1 + pickI sk (i + 1)), .int .i64 x2, .int .i64 x3, .int .i64 x4, .int .i64 x5, .int .i64 x6, .int .i64 x7] 28)).drew hWb (fun h => h)
      have hWf2 := (hWf.alloc (.cells #[.int .i64 2, .int .i64 (1 + pickI sk (i + 1)), .int .i64 x2, .int .i64 x3, .int .i64 x4, .int .i64 x5, .int .i64 x6, .int .i64 x7] 28)).drew
      generalize World.drew (World.alloc W3 _) = W4 at hWb2 hWf2 ⊢
      obtain ⟨g0, g1, g2, g3, g4, g5, g6, g7, _⟩ := box8 hWb2
      rw [hXe]
      exact bodyPost_ret (v := (⟨2, 1 + pickI sk (i + 1), x2, x3, x4, x5, x6, x7⟩ : Cmd).val) (by simp [results, Try.results9, go_sem, Cmd.val, g0, g1, g2, g3, g4, g5, g6, g7]) rfl ⟨rfl, hWf2⟩
    · have hXe : X = ⟨3, 1 + pickI sk (i + 1), x2, x3, x4, x5, x6, x7⟩ := by rw [← unhide HX]; simp_all
      have hWb := st8_heap (unhide HF).2.2 (.int .i64 3) (.int .i64 (1 + pickI sk (i + 1))) (.int .i64 x2) (.int .i64 x3) (.int .i64 x4) (.int .i64 x5) (.int .i64 x6) (.int .i64 x7)
      have hWf := st8_fr (unhide HF).1 (.inl hQw) (.int .i64 3) (.int .i64 (1 + pickI sk (i + 1))) (.int .i64 x2) (.int .i64 x3) (.int .i64 x4) (.int .i64 x5) (.int .i64 x6) (.int .i64 x7)
      generalize World.setCell (World.setCell (World.setCell (World.setCell (World.setCell (World.setCell (World.setCell (World.setCell W ⟨Q, 0, none⟩ _) ⟨Q, 1, none⟩ _) ⟨Q, 2, none⟩ _) ⟨Q, 3, none⟩ _) ⟨Q, 4, none⟩ _) ⟨Q, 5, none⟩ _) ⟨Q, 6, none⟩ _) ⟨Q, 7, none⟩ _ = W3 at hWb hWf ⊢
      have hWb2 := Fr.heap ((Fr.refl No W3).alloc (.cells #[.int .i64 3, .int .i64 (1 + pickI sk (i + 1)), .int .i64 x2, .int .i64 x3, .int .i64 x4, .int .i64 x5, .int .i64 x6, .int .i64 x7] 28)).drew hWb (fun h => h)
      have hWf2 := (hWf.alloc (.cells #[.int .i64 3, .int .i64 (1 + pickI sk (i + 1)), .int .i64 x2, .int .i64 x3, .int .i64 x4, .int .i64 x5, .int .i64 x6, .int .i64 x7] 28)).drew
      generalize World.drew (World.alloc W3 _) = W4 at hWb2 hWf2 ⊢
      obtain ⟨g0, g1, g2, g3, g4, g5, g6, g7, _⟩ := box8 hWb2
      rw [hXe]
      exact bodyPost_ret (v := (⟨3, 1 + pickI sk (i + 1), x2, x3, x4, x5, x6, x7⟩ : Cmd).val) (by simp [results, Try.results9, go_sem, Cmd.val, g0, g1, g2, g3, g4, g5, g6, g7]) rfl ⟨rfl, hWf2⟩
    · have hXe : X = ⟨4, i + 1, x2, x3, x4, x5, x6, x7⟩ := by rw [← unhide HX]; simp_all
      have hWb := st8_heap (unhide HF).2.2 (.int .i64 4) (.int .i64 (i + 1)) (.int .i64 x2) (.int .i64 x3) (.int .i64 x4) (.int .i64 x5) (.int .i64 x6) (.int .i64 x7)
      have hWf := st8_fr (unhide HF).1 (.inl hQw) (.int .i64 4) (.int .i64 (i + 1)) (.int .i64 x2) (.int .i64 x3) (.int .i64 x4) (.int .i64 x5) (.int .i64 x6) (.int .i64 x7)
      generalize World.setCell (World.setCell (World.setCell (World.setCell (World.setCell (World.setCell (World.setCell (World.setCell W ⟨Q, 0, none⟩ _) ⟨Q, 1, none⟩ _) ⟨Q, 2, none⟩ _) ⟨Q, 3, none⟩ _) ⟨Q, 4, none⟩ _) ⟨Q, 5, none⟩ _) ⟨Q, 6, none⟩ _) ⟨Q, 7, none⟩ _ = W3 at hWb hWf ⊢
      have hWb2 := Fr.heap ((Fr.refl No W3).alloc (.cells #[.int .i64 4, .int .i64 (i + 1), .int .i64 x2, .int .i64 x3, .int .i64 x4, .int .i64 x5, .int .i64 x6, .int .i64 x7] 28)).drew hWb (fun h => h)
      have hWf2 := (hWf.alloc (.cells #[.int .i64 4, .int .i64 (i + 1), .int .i64 x2, .int .i64 x3, .int .i64 x4, .int .i64 x5, .int .i64 x6, .int .i64 x7] 28)).drew
      generalize World.drew (World.alloc W3 _) = W4 at hWb2 hWf2 ⊢
      obtain ⟨g0, g1, g2, g3, g4, g5, g6, g7, _⟩ := box8 hWb2
      rw [hXe]
      exact bodyPost_ret (v := (⟨4, i + 1, x2, x3, x4, x5, x6, x7⟩ : Cmd).val) (by simp [results, Try.results9, go_sem, Cmd.val, g0, g1, g2, g3, g4, g5, g6, g7]) rfl ⟨rfl, hWf2⟩
    · have hXe : X = ⟨1, i + 1, x2, x3, x4, x5, x6, x7⟩ := by rw [← unhide HX]; simp_all
      have hWb := st8_heap (unhide HF).2.2 (.int .i64 1) (.int .i64 (i + 1)) (.int .i64 x2) (.int .i64 x3) (.int .i64 x4) (.int .i64 x5) (.int .i64 x6) (.int .i64 x7)
      have hWf := st8_fr (unhide HF).1 (.inl hQw) (.int .i64 1) (.int .i64 (i + 1)) (.int .i64 x2) (.int .i64 x3) (.int .i64 x4) (.int .i64 x5) (.int .i64 x6) (.int .i64 x7)
      generalize World.setCell (World.setCell (World.setCell (World.setCell (World.setCell (World.setCell (World.setCell (World.setCell W ⟨Q, 0, none⟩ _) ⟨Q, 1, none⟩ _) ⟨Q, 2, none⟩ _) ⟨Q, 3, none⟩ _) ⟨Q, 4, none⟩ _) ⟨Q, 5, none⟩ _) ⟨Q, 6, none⟩ _) ⟨Q, 7, none⟩ _ = W3 at hWb hWf ⊢
      have hWb2 := Fr.heap ((Fr.refl No W3).alloc (.cells #[.int .i64 1, .int .i64 (i + 1), .int .i64 x2, .int .i64 x3, .int .i64 x4, .int .i64 x5, .int .i64 x6, .int .i64 x7] 28)).drew hWb (fun h => h)
      have hWf2 := (hWf.alloc (.cells #[.int .i64 1, .int .i64 (i + 1), .int .i64 x2, .int .i64 x3, .int .i64 x4, .int .i64 x5, .int .i64 x6, .int .i64 x7] 28)).drew
      generalize World.drew (World.alloc W3 _) = W4 at hWb2 hWf2 ⊢
      obtain ⟨g0, g1, g2, g3, g4, g5, g6, g7, _⟩ := box8 hWb2
      rw [hXe]
      exact bodyPost_ret (v := (⟨1, i + 1, x2, x3, x4, x5, x6, x7⟩ : Cmd).val) (by simp [results, Try.results9, go_sem, Cmd.val, g0, g1, g2, g3, g4, g5, g6, g7]) rfl ⟨rfl, hWf2⟩
    · have hXe : X = ⟨1, i + 1, x2, x3, x4, x5, x6, x7⟩ := by rw [← unhide HX]; simp_all
      have hWb := st8_heap (unhide HF).2.2 (.int .i64 1) (.int .i64 (i + 1)) (.int .i64 x2) (.int .i64 x3) (.int .i64 x4) (.int .i64 x5) (.int .i64 x6) (.int .i64 x7)
      have hWf := st8_fr (unhide HF).1 (.inl hQw) (.int .i64 1) (.int .i64 (i + 1)) (.int .i64 x2) (.int .i64 x3) (.int .i64 x4) (.int .i64 x5) (.int .i64 x6) (.int .i64 x7)
      generalize World.setCell (World.setCell (World.setCell (World.setCell (World.setCell (World.setCell (World.setCell (World.setCell W ⟨Q, 0, none⟩ _) ⟨Q, 1, none⟩ _) ⟨Q, 2, none⟩ _) ⟨Q, 3, none⟩ _) ⟨Q, 4, none⟩ _) ⟨Q, 5, none⟩ _) ⟨Q, 6, none⟩ _) ⟨Q, 7, none⟩ _ = W3 at hWb hWf ⊢
      have hWb2 := Fr.heap ((Fr.refl No W3).alloc (.cells #[.int .i64 1, .int .i64 (i + 1), .int .i64 x2, .int .i64 x3, .int .i64 x4, .int .i64 x5, .int .i64 x6, .int .i64 x7] 28)).drew hWb (fun h => h)
      have hWf2 := (hWf.alloc (.cells #[.int .i64 1, .int .i64 (i + 1), .int .i64 x2, .int .i64 x3, .int .i64 x4, .int .i64 x5, .int .i64 x6, .int .i64 x7] 28)).drew
      generalize World.drew (World.alloc W3 _) = W4 at hWb2 hWf2 ⊢
      obtain ⟨g0, g1, g2, g3, g4, g5, g6, g7, _⟩ := box8 hWb2
      rw [hXe]
      exact bodyPost_ret (v := (⟨1, i + 1, x2, x3, x4, x5, x6, x7⟩ : Cmd).val) (by simp [results, Try.results9, go_sem, Cmd.val, g0, g1, g2, g3, g4, g5, g6, g7]) rfl ⟨rfl, hWf2⟩
end Go.Proofs.Ytigpgnjgmaoejaa
