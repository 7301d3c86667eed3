/- slices.Grow of no slice, slices.Concat of two, a book's Orders. Conditions: the slices lie in memory, with at most 1000 orders each. -/
import Derived.Test.YtigpgnjgmaoejaaGreatTrDE
import Derived.Deep.RegionHeld3
namespace Go.Proofs.YtigpgnjgmaoejaaGreat
open Go.RowKit

theorem app_ords {ops : Array Oper} {rest : List Oper} {o : Oper} {a : Act} {Q : Exit → Act → World → Prop} {w : World} (hgd : o.guard = none) (s x : Operand) (ho : o.op = .call { callee := .builtin .append, args := #[s, x], argTypes := #[53, 53] })
    (base : Nat) (v : Value) (L : List Ord) (hown : Os w base v L) (hs : a.eval s = v) (vx : Value) (b2 : Nat) (N : List Ord) (hown2 : Os w b2 vx N) (hx : a.eval x = vx) (hb : L.length + N.length ≤ 100000) (hbase : base ≤ w.heap.size)
    (h : ∀ v' w', Os w' base v' (L ++ N) → Fr (OwnS v) w w' → wpList Tryz.prog ops Q rest (a.put o.dst v') w') : wpList Tryz.prog ops Q (o :: rest) a w := by
  obtain ⟨ax, cx, rfl, hcx, hnx, hax⟩ := own_form hown2
  obtain ⟨av, cv, rfl, hcv, hnv, hav⟩ := own_form hown
  cases N with
  | nil =>
    simp only [List.append_nil] at h
    exact app_none infoOrd Tryz.underlying53 hgd s x ho _ _ _ hcv hs ax cx (fun e => (hnx e).2) hx (h _ w hown (Fr.refl _ _))
  | cons y N =>
    cases ax with
    | none => have := (hnx rfl).1; simp at this
    | some ad2 =>
      obtain ⟨g2, rfl, _, _, _⟩ := hax _ rfl
      exact app_ord hgd s x ho base _ L hown hs _ _ _ (y :: N) hx rfl (by simp) (own_news hown2) (by omega) hbase (fun g cap w' h1 h2 _ _ => h _ w' h1 h2)

set_option maxHeartbeats 2000000 in
set_option maxRecDepth 100000 in
theorem grow_any (n : Nat) (hn : n ≤ 10000) (w : World) :
    Calls Tryz.prog 125 #[.slice none 0 0, .int .i64 (n : Int)] w fun e w' => ∃ v, e = .returned v ∧ Os w' w.heap.size v [] ∧ Fr No w w' := by
  have mixed : Tryz.prog.follows Departure.mixedOrders = true := by kernel_rfl
  obtain ⟨i0, hi0, hz0, hz1, hz2⟩ := info_parts infoOrd
  by_cases h0 : n = 0
  · subst h0
    go_enter Tryz.func125, Tryz.ntmps125
    go_wp2
    go_ret
    exact ⟨_, rfl, World.ownsRow_nil _ _ _ _, Fr.refl _ _⟩
  · have hold : (Builtin.firstCells i0.size 0 (.slice none 0 0)).run Tryz.prog w.drew = .ok ([] : List Value).toArray w.drew := by
      simp [Builtin.firstCells]
    have hrz : ∀ ty, (Builtin.append_ #[53, 3] ty #[.slice none 0 0, .int .i64 (n : Int)]).run Tryz.prog w =
        .ok (.slice (some ⟨w.heap.size, 0, none⟩) n (grownCap w n 0 95)) (w.drew.alloc (.cells (Builtin.zeroCells zOrd.cells n ++ Builtin.zeroCells zOrd.cells (grownCap w n 0 95 - n)) 95)) := fun ty => by
      have h := Lib.run_append_grow_zeros w 53 3 ty 95 i0 _ .i64 .i64 Tryz.underlying53 Tryz.underlying3 hi0 hz0 none 0 0 [] hold n (by omega) (by omega) (by omega) (by omega) (by rw [hz2]; omega) (by rw [hz2, Nat.zero_add]; exact growslice_fits (by omega) (by omega))
      simpa using h
    obtain ⟨G, hG⟩ : ∃ G, G = grownCap w n 0 95 := ⟨_, rfl⟩
    rw [← hG] at hrz
    have hGn : n ≤ G := by rw [hG]; exact grownCap_ge w _ _ _
    have hGm : G ≤ maxLen := by rw [hG]; exact grownCap_le_maxLen w n 0 95 (by unfold maxLen; omega)
    obtain ⟨ROW, hROW⟩ : ∃ ROW : Array Value, ROW = Builtin.zeroCells zOrd.cells n ++ Builtin.zeroCells zOrd.cells (G - n) := ⟨_, rfl⟩
    rw [← hROW] at hrz
    have hRl : ROW.size = G * 6 := by rw [hROW]; simp only [Array.size_append, zeroCells_size]; omega
    have hend : Hid (Os (w.drew.alloc (.cells ROW 95)) w.heap.size (.slice (some ⟨w.heap.size, 0, none⟩) 0 G) [] ∧ Fr No w (w.drew.alloc (.cells ROW 95))) :=
      ⟨⟨by simp, .inr ⟨w.heap.size, G, ROW, rfl, Nat.le_refl _, heap_alloc_new w.drew _, Nat.zero_le _, hGm, hRl, by simp⟩⟩, (Fr.refl No w).drew.alloc _⟩
    have hG63 : G ≤ 9223372036854775807 := hGm
    clear hG hRl hROW hold hi0 hz0 hz1 hz2 hGm
    have hp : (0 : Int) < (n : Int) := by omega
    go_enter Tryz.func125, Tryz.ntmps125
    go_wp2_with (at_builtin; refine Lib.wpList_append_run _ rfl _ _ _ _ rfl _ _ rfl rfl _ _ (hrz _) ?_)
    go_ret
    exact ⟨_, rfl, (unhide hend).1, (unhide hend).2⟩

set_option maxHeartbeats 2000000 in
set_option maxRecDepth 20000 in
theorem concat_any (q : Nat) (v0 v1 : Value) (L0 L1 : List Ord) (w : World) (hq : w.heap[q]? = some (.cells #[v0, v1] 53 (0, 0))) (h0 : Os w 0 v0 L0) (h1 : Os w 0 v1 L1) (hl0 : L0.length ≤ 1000) (hl1 : L1.length ≤ 1000) :
    Calls Tryz.prog 72 #[.slice (some ⟨q, 0, none⟩) 2 2] w fun e w' => ∃ v, e = .returned v ∧ Os w' w.heap.size v (L0 ++ L1) ∧ Fr No w w' := by
  have HQ := hide (And.intro hq (And.intro h0 h1))
  obtain ⟨a0, c0, rfl, -⟩ := own_form h0
  obtain ⟨a1, c1, rfl, -⟩ := own_form h1
  have hc0 : w.cell? ⟨q, 0, none⟩ = some (.slice a0 L0.length c0) := cell_heap hq 0
  have hc1 : w.cell? ⟨q, 1, none⟩ = some (.slice a1 L1.length c1) := cell_heap hq 1
  clear hq h0 h1
  generalize hn0 : L0.length = n0 at *
  generalize hn1 : L1.length = n1 at *
  have HN := hide (And.intro hn0 hn1)
  clear hn0 hn1
  go_enter Tryz.func72, Tryz.ntmps72
  go_wp2
  go_loop [3, 11] (fun s i => ∃ k : Nat, k ≤ 2 ∧ i = .int .i64 k ∧ s = .int .i64 (((if k = 0 then 0 else if k = 1 then n0 else n0 + n1) : Nat) : Int)) (fun _ i => 2 - (intOf i).toNat)
  case atStart => exact ⟨0, by omega, rfl, rfl⟩
  case round =>
    obtain ⟨k, hk, rfl, rfl⟩ := hrel
    match k, hk with
    | 0, _ =>
      simp only [show (((0 : Nat)) : Int) = 0 from rfl, if_true]
      go_wp2
      go_round
      case rel => exact ⟨1, by omega, by go_num, by go_num⟩
      case measure => simp [intOf]
    | 1, _ =>
      simp only [show (((1 : Nat)) : Int) = 1 from rfl, if_true, show ¬ ((1 : Nat) = 0) by decide, if_false]
      go_wp2
      go_round
      case rel => exact ⟨2, by omega, by go_num, by go_num⟩
      case measure => simp [intOf]
    | 2, _ =>
      simp only [show ¬ ((2 : Nat) = 0) by decide, show ¬ ((2 : Nat) = 1) by decide, if_false]
      go_wp2_with (go_at_call 125; refine (grow_any (n0 + n1) (by omega) _).mono ?_; rintro e w1 ⟨v1, rfl, ho1, hf1⟩; have HF1 := hide (And.intro ho1 hf1); clear ho1 hf1)
      go_loopw [6, 27] (fun l i wr => ∃ k : Nat, k ≤ 2 ∧ i = .int .i64 k ∧ Os wr w.heap.size l (if k = 0 then [] else if k = 1 then L0 else L0 ++ L1) ∧ Fr No w wr) (fun _ i _ => 2 - (intOf i).toNat)
      case atStart => exact ⟨0, by omega, rfl, (unhide HF1).1, (unhide HF1).2⟩
      case round =>
        obtain ⟨k, hk, rfl, hown, hfr⟩ := hrel
        have hq' := hfr.heap (unhide HQ).1 id
        have d0 : wr.cell? ⟨q, 0, none⟩ = some (.slice a0 n0 c0) := cell_heap hq' 0
        have d1 : wr.cell? ⟨q, 1, none⟩ = some (.slice a1 n1 c1) := cell_heap hq' 1
        have o0 : Os wr 0 (.slice a0 n0 c0) L0 := own_fr (unhide HQ).2.1 hfr (fun _ _ => id)
        have o1 : Os wr 0 (.slice a1 n1 c1) L1 := own_fr (unhide HQ).2.2 hfr (fun _ _ => id)
        have HO := hide (And.intro o0 (And.intro o1 hfr))
        have hsz := hfr.size
        clear hq' o0 o1 hfr
        match k, hk with
        | 0, _ =>
          simp only [show (((0 : Nat)) : Int) = 0 from rfl, if_true] at hown ⊢
          have HW := hide hown
          clear hown
          go_wp2_with (at_builtin; refine app_ords rfl (.tmp 31) (.tmp 32) rfl w.heap.size _ [] (unhide HW) rfl _ 0 L0 (unhide HO).1 rfl (by simp; have := (unhide HN).1; omega) hsz ?_; intro v9 w9 hown9 hfr9)
          go_roundw
          case rel => exact ⟨1, by omega, by go_num, hown9, (unhide HO).2.2.trans hfr9 fun j hj ht => absurd ((unhide HW).lt j ht).1 (by omega)⟩
          case measure => simp [intOf]
        | 1, _ =>
          simp only [show (((1 : Nat)) : Int) = 1 from rfl, if_true, show ¬ ((1 : Nat) = 0) by decide, if_false] at hown ⊢
          have HW := hide hown
          clear hown
          go_wp2_with (at_builtin; refine app_ords rfl (.tmp 31) (.tmp 32) rfl w.heap.size _ L0 (unhide HW) rfl _ 0 L1 (unhide HO).2.1 rfl (by have := (unhide HN).1; have := (unhide HN).2; omega) hsz ?_; intro v9 w9 hown9 hfr9)
          go_roundw
          case rel => exact ⟨2, by omega, by go_num, hown9, (unhide HO).2.2.trans hfr9 fun j hj ht => absurd ((unhide HW).lt j ht).1 (by omega)⟩
          case measure => simp [intOf]
        | 2, _ =>
          simp only [show ¬ ((2 : Nat) = 0) by decide, show ¬ ((2 : Nat) = 1) by decide, if_false] at hown
          have HW := hide hown
          clear hown
          go_wp2
          go_ret
          exact ⟨_, rfl, unhide HW, (unhide HO).2.2⟩

set_option maxHeartbeats 4000000 in
set_option maxRecDepth 20000 in
theorem bOrders_any (b bx : Nat) (tr : Bool) (td : Int) (v : Nat → Value) (M : Nat → List Ord) (w : World) (h : PB w b bx tr td v M) :
    Calls Tryz.prog 40 #[.pointer (some ⟨b, 0, none⟩)] w fun e w' => ∃ r, e = .returned r ∧ Os w' w.heap.size r (M 0 ++ M 1) ∧ Fr No w w' := by
  have hc0 := h.cells.2.2.1
  have hc1 := h.cells.2.2.2
  have hb := h.lt
  obtain ⟨a0, k0, hv0⟩ := h.side0.at_.form
  obtain ⟨a1, k1, hv1⟩ := h.side1.at_.form
  rw [hv0] at hc0
  rw [hv1] at hc1
  have HC : Hid (∀ W q, Fr No w W → W.heap[q]? = some (.cells #[.slice a0 (M 0).length k0, .slice a1 (M 1).length k1] 53 (0, 0)) → Calls Tryz.prog 72 #[.slice (some ⟨q, 0, none⟩) 2 2] W fun e w' => ∃ r, e = .returned r ∧ Os w' W.heap.size r (M 0 ++ M 1) ∧ Fr No W w') := fun W q hf hq =>
    concat_any q _ _ (M 0) (M 1) W hq (by rw [← hv0]; exact (h.no hf).own 0 (by omega)) (by rw [← hv1]; exact (h.no hf).own 1 (by omega)) (h.len 0 (by omega)) (h.len 1 (by omega))
  clear h hv0 hv1
  generalize (M 0).length = n0 at *
  generalize (M 1).length = n1 at *
  go_enter Tryz.func40, Tryz.ntmps40
  go_wp2_with fail
  go_region_held3 (fun w' : World => w'.cell? ⟨b, 3, none⟩ = some (.slice a0 n0 k0) ∧ w'.cell? ⟨b, 5, none⟩ = some (.slice a1 n1 k1)) (go_keep)
    (first
      | (go_at_call 55; refine (bSide_any b _ (by first | exact .inl rfl | exact .inr rfl) _).mono ?_; rintro e w2 ⟨rfl, rfl⟩; first | rw [show sAt 1 = 3 from rfl] | rw [show sAt 2 = 5 from rfl])
      | (go_at_call 72; refine (unhide HC _ w.heap.size ((Fr.refl _ _).alloc _).drew (heap_alloc_new w _)).mono ?_; rintro e w3 ⟨r3, rfl, ho3, hf3⟩; have hfw : Fr No w w3 := ((Fr.refl No w).alloc _).drew.quiet hf3; have d3 := (hfw.below.cell (p := ⟨b, 3, none⟩) hb).trans hc0; have d5 := (hfw.below.cell (p := ⟨b, 5, none⟩) hb).trans hc1; have HO := hide (And.intro ho3 hfw); clear ho3 hf3 hfw))
  go_wp2
  go_ret
  obtain ⟨ho3, hfw⟩ := unhide HO
  exact ⟨_, rfl, own_base ho3 (fun g hg => by have := (ho3.lt g hg).1; simp at this; omega), hfw⟩
end Go.Proofs.YtigpgnjgmaoejaaGreat

/- slices.IndexFunc and slices.DeleteFunc over orders with the test 'not of this trader'; a book's Of. Conditions: the slice lies in memory as its own block, with at most 10000 orders. -/
namespace Go.Proofs.YtigpgnjgmaoejaaGreat
open Go.RowKit

/-- The test: not of this trader. -/
def notV (N : Nat) : Value := .func (.func 140) #[] #[.pointer (some ⟨N, 0, none⟩)]

set_option maxHeartbeats 1000000 in
theorem not_any (x : Ord) (t : Int) (N : Nat) (w : World) (hc : w.cell? ⟨N, 0, none⟩ = some (.int .i64 t)) (hN : N < w.heap.size) :
    Calls Tryz.prog 140 #[x.val, .pointer (some ⟨N, 0, none⟩)] w fun e w' => e = .returned (.bool (x.trader != t)) ∧ Fr No w w' := by
  unfold Ord.val
  go_enter Tryz.func140, Tryz.ntmps140
  go_wp2
  go_ret
  exact ⟨rfl, (Fr.refl _ _).alloc _⟩

theorem idx_none {p : Ord → Bool} {L : List Ord} (h : ∀ j (hj : j < L.length), p L[j] = false) : L.findIdx? p = none := by
  rw [List.findIdx?_eq_none_iff]
  intro o ho
  obtain ⟨j, hj, rfl⟩ := List.getElem_of_mem ho
  exact h j hj
theorem idx_some {p : Ord → Bool} {L : List Ord} {k : Nat} (hk : k < L.length) (hp : p L[k] = true) (h : ∀ j (hj : j < L.length), j < k → p L[j] = false) : L.findIdx? p = some k := by
  rw [List.findIdx?_eq_some_iff_getElem]
  exact ⟨hk, hp, fun j hj => by have := h j (by omega) hj; simpa using this⟩

set_option maxHeartbeats 2000000 in
theorem indexF_any (base : Nat) (v : Value) (L : List Ord) (t : Int) (N : Nat) (w : World) (hown : Os w base v L) (hc : w.cell? ⟨N, 0, none⟩ = some (.int .i64 t)) (hN : N < w.heap.size) (hn : L.length ≤ 10000) :
    Calls Tryz.prog 163 #[v, notV N] w fun e w' => e = .returned (.int .i64 (enc (L.findIdx? fun o => o.trader != t))) ∧ Fr No w w' := by
  obtain ⟨a, cap, rfl, -⟩ := own_form hown
  have HO := hide (And.intro hown hc)
  clear hown hc
  generalize hnn : L.length = n at *
  have Hn := hide hnn
  clear hnn
  unfold notV
  go_enter Tryz.func163, Tryz.ntmps163
  go_wp2
  go_loopw [8] (fun i wr => ∃ k : Nat, k ≤ n ∧ i = .int .i64 k ∧ Fr No w wr ∧ ∀ j (hj : j < L.length), j < k → (L[j].trader != t) = false) (fun i _ => n - (intOf i).toNat)
  case atStart => exact ⟨0, Nat.zero_le _, rfl, Fr.refl _ _, fun j _ h => by omega⟩
  case round =>
    obtain ⟨k, hk, rfl, hfr, hno⟩ := hrel
    by_cases hlt : k < n
    · have hlt' : k < L.length := by rw [unhide Hn]; exact hlt
      obtain ⟨g, rfl, hg, _, c0, c1, c2, c3, c4, c5, _⟩ := os_at (own_fr (S := No) (unhide HO).1 hfr (fun _ _ => id)) k hlt'
      have hcN : wr.cell? ⟨N, 0, none⟩ = some (.int .i64 t) := (hfr.below.cell (p := ⟨N, 0, none⟩) hN).trans (unhide HO).2
      have hNr : N < wr.heap.size := Nat.lt_of_lt_of_le hN hfr.size
      have HC := hide (And.intro hcN (And.intro hfr hno))
      clear hfr hno hcN
      generalize hX : (L[k].trader != t) = X
      have HX := hide hX
      clear hX
      cases X with
      | true =>
        go_wp2_with (go_at_call 140; refine (not_any L[k] t N _ (unhide HC).1 hNr).mono ?_; rintro e w1 ⟨rfl, hf1⟩; rw [unhide HX]; have HF1 := hide hf1; clear hf1)
        go_ret
        exact ⟨retI (by rw [idx_some hlt' (unhide HX) (unhide HC).2.2]; rfl), (unhide HC).2.1.quiet (unhide HF1)⟩
      | false =>
        go_wp2_with (go_at_call 140; refine (not_any L[k] t N _ (unhide HC).1 hNr).mono ?_; rintro e w1 ⟨rfl, hf1⟩; rw [unhide HX]; have HF1 := hide hf1; clear hf1)
        go_roundw
        case rel =>
          refine ⟨k + 1, by omega, by go_num, (unhide HC).2.1.quiet (unhide HF1), fun j hj hjk => ?_⟩
          by_cases he : j = k
          · subst he; exact unhide HX
          · exact (unhide HC).2.2 j hj (by omega)
        case measure => simp [intOf]; omega
    · have HF := hide (And.intro hfr hno)
      clear hfr hno
      go_wp2
      go_ret
      exact ⟨retI (by rw [idx_none fun j hj => (unhide HF).2 j hj (by have := unhide Hn; omega)]; rfl), (unhide HF).1⟩

/-- An order is written at a place. -/
theorem os_put {w : World} {base g n cap : Nat} {L : List Ord} {i : Nat} (h : Os w base (.slice (some ⟨g, 0, none⟩) n cap) L) (hi : i < L.length) (x : Ord) : Os (w.setCells g (i * 6) x.cells) base (.slice (some ⟨g, 0, none⟩) n cap) (L.set i x) := by
  refine ⟨by rw [flat_len Ord.len], ?_⟩
  rcases h.2 with ⟨_, h0⟩ | ⟨g', cap', cur, hv, hb, hg, hn, hm, hcs, ht⟩
  · omega
  · simp only [Value.slice.injEq, Option.some.injEq, Addr.mk.injEq, and_true] at hv
    obtain ⟨rfl, rfl, rfl⟩ := hv
    have hxc : x.cells.length = 6 := rfl
    have hsz : L.length * 6 ≤ cur.size := by omega
    refine .inr ⟨g, cap, _, by simp, hb, heap_cells x.cells (i * 6) w cur hg (by omega), by simpa using hn, hm, ?_, ?_⟩
    · simp only [List.size_toArray, List.length_append, List.length_take, List.length_drop, Array.length_toList]; omega
    · have hCl : cur.toList.length = cap * 6 := by rw [Array.length_toList]; exact hcs
      generalize cur.toList = C at *
      generalize hLn : L.length = n at *
      rw [List.length_set, hLn, List.set_eq_take_append_cons_drop, if_pos (by omega), List.flatMap_append, List.flatMap_cons, flat_take Ord.len, flat_drop Ord.len, ← ht]
      simp only
      rw [List.take_take, Nat.min_eq_left (by omega), List.append_assoc, List.take_append, List.length_take, Nat.min_eq_left (by omega), List.take_of_length_le (l := List.take (i * 6) C) (by simp; omega)]
      congr 1
      rw [List.take_append, List.take_of_length_le (l := x.cells) (by omega), List.drop_take, hxc]
      congr 1
      rw [show (i + 1) * 6 = i * 6 + 6 by omega, show n * 6 - i * 6 - 6 = n * 6 - (i * 6 + 6) by omega]

theorem zero_one (m : Nat) : ∀ u ∈ (Builtin.zeroCells zOrd.cells m).toList, u.oneCell' = true := by
  intro u hu
  have hz : ∀ j, j < 6 → (zOrd.cells[j]!).oneCell' = true := fun j hj => by
    match j, hj with
    | 0, _ | 1, _ | 2, _ | 3, _ | 4, _ | 5, _ => rfl
  have hs : zOrd.cells.size = 6 := rfl
  simp only [Builtin.zeroCells, Array.toList_map, List.mem_map] at hu
  obtain ⟨i, _, rfl⟩ := hu
  rw [hs]
  exact hz _ (Nat.mod_lt _ (by omega))
theorem zero_len (m : Nat) : (Builtin.zeroCells zOrd.cells m).toList.length = m * 6 := by
  rw [Array.length_toList, zeroCells_size]

/-- clear of some orders. -/
theorem run_clear_many {P : Program} (w : World) (t e ty : TypeId) (ht : P.underlying t = some (.slice e)) (hv : ∀ w, (zeroValue e).run P w = .ok zOrd w) (b o m c : Nat) (hm : 0 < m)
    (hc : ∀ j, j < m * 6 → (w.cell? ⟨b, o + j, none⟩).isSome = true) (hf : ∀ j, j < m * 6 → w.frozen? ⟨b, o + j, none⟩ = false) :
    (Builtin.clear_ #[t] ty #[.slice (some ⟨b, o, none⟩) m c]).run P w = .ok (.tuple #[]) (w.setCells b o (Builtin.zeroCells zOrd.cells m).toList) := by
  have hst := run_storeCells_cells (P := P) b o (Builtin.zeroCells zOrd.cells m).toList 0 w (by rw [zero_len]; simpa using hc) (by rw [zero_len]; simpa using hf) (zero_one m)
  simp only [Nat.add_zero] at hst
  obtain ⟨k, rfl⟩ : ∃ k, m = k + 1 := ⟨m - 1, by omega⟩
  simp [Builtin.clear_, run_underlying ht, hv, hst]

theorem keep_succ {t : Int} {L : List Ord} {k : Nat} (hk : k < L.length) : (L.take (k + 1)).filter (isOf t) = if (L[k].trader != t) = true then (L.take k).filter (isOf t) else (L.take k).filter (isOf t) ++ [L[k]] := by
  rw [subTo_succ hk]
  by_cases h : L[k].trader = t
  · rw [if_pos (by simp [isOf, h]), if_neg (by simp [h])]
  · rw [if_neg (by simp [isOf, h]), if_pos (by simp [h])]

/-- What lies in the slice between two rounds: what stays, what was passed, what is to come. -/
structure DMid (w wr : World) (base g n cap N : Nat) (t : Int) (L : List Ord) (i j : Nat) : Prop where
  row : ∃ R, Os wr base (.slice (some ⟨g, 0, none⟩) n cap) ((L.take j).filter (isOf t) ++ R ++ L.drop j) ∧ ((L.take j).filter (isOf t) ++ R ++ L.drop j).length = n ∧ R.length + i = j
  len : ((L.take j).filter (isOf t)).length = i
  fr : Fr (Is g) w wr
  lt : i < j
  le : j ≤ n
  cel : wr.cell? ⟨N, 0, none⟩ = some (.int .i64 t)

theorem DMid.next {w wr w1 : World} {base g n cap N : Nat} {t : Int} {L : List Ord} {i j : Nat} (h : DMid w wr base g n cap N t L i j) (hL : L.length = n) (hj : j < n) (hp : (L[j]'(by omega)).trader != t) (hf : Fr No wr w1) (hN : N < wr.heap.size) : DMid w w1 base g n cap N t L i (j + 1) := by
  obtain ⟨R, ho, hl, hr⟩ := h.row
  have hj' : j < L.length := by omega
  have hk := keep_succ (t := t) hj'
  rw [if_pos hp] at hk
  have hd : L.drop j = L[j] :: L.drop (j + 1) := List.drop_eq_getElem_cons hj'
  have e : (L.take (j + 1)).filter (isOf t) ++ (R ++ [L[j]]) ++ L.drop (j + 1) = (L.take j).filter (isOf t) ++ R ++ L.drop j := by rw [hk, hd]; simp
  refine ⟨⟨R ++ [L[j]], by rw [e]; exact own_fr (S := No) ho hf (fun _ _ => id), by rw [e]; exact hl, by simp; omega⟩, by rw [hk]; exact h.len, h.fr.quiet hf, by have := h.lt; omega, by omega, (hf.below.cell (p := ⟨N, 0, none⟩) hN).trans h.cel⟩

theorem DMid.put {w wr w1 : World} {base g n cap N : Nat} {t : Int} {L : List Ord} {i j : Nat} (h : DMid w wr base g n cap N t L i j) (hL : L.length = n) (hj : j < n) (hp : ((L[j]'(by omega)).trader != t) = false) (hf : Fr No wr w1) (hN : N < wr.heap.size) (hNg : N ≠ g) : DMid w (w1.setCells g (i * 6) (L[j]'(by omega)).cells) base g n cap N t L (i + 1) (j + 1) := by
  obtain ⟨R, ho, hl, hr⟩ := h.row
  have hj' : j < L.length := by omega
  have hk := keep_succ (t := t) hj'
  rw [if_neg (by rw [hp]; decide)] at hk
  have hd : L.drop j = L[j] :: L.drop (j + 1) := List.drop_eq_getElem_cons hj'
  have hlt := h.lt
  obtain ⟨y, R', rfl⟩ : ∃ y R', R = y :: R' := by
    cases R with
    | nil => simp at hr; omega
    | cons y R' => exact ⟨y, R', rfl⟩
  have hil := h.len
  have hfs : Fr (Is g) w1 (w1.setCells g (i * 6) L[j].cells) := fr_cells (.inr (Is.self g)) _ _ _ (Fr.refl _ _)
  have e : ((L.take j).filter (isOf t) ++ (y :: R') ++ L.drop j).set i L[j] = (L.take (j + 1)).filter (isOf t) ++ (R' ++ [L[j]]) ++ L.drop (j + 1) := by
    rw [hk, hd, List.append_assoc, List.set_append_right _ _ (by omega), hil, Nat.sub_self]
    simp
  have ho1 := os_put (own_fr (S := No) ho hf (fun _ _ => id)) (i := i) (by rw [hl]; omega) L[j]
  rw [e] at ho1
  refine ⟨⟨R' ++ [L[j]], ho1, by rw [← e, List.length_set]; exact hl, by simp at hr ⊢; omega⟩, by rw [hk]; simp; exact hil, (h.fr.quiet hf).same hfs, by omega, by omega, ?_⟩
  have h1 : w1.cell? ⟨N, 0, none⟩ = some (.int .i64 t) := (hf.below.cell (p := ⟨N, 0, none⟩) hN).trans h.cel
  have hNl : N < w1.heap.size := Nat.lt_of_lt_of_le hN hf.size
  have := hfs.block N hNl (fun e => hNg e)
  simp only [World.cell?] at h1 ⊢
  rw [this]
  exact h1

theorem DMid.at_ {w wr : World} {base g n cap N : Nat} {t : Int} {L : List Ord} {i j : Nat} (h : DMid w wr base g n cap N t L i j) (hL : L.length = n) (hj : j < n) :
    wr.cell? ⟨g, j * 6, none⟩ = some (.int .i64 (L[j]'(by omega)).id) ∧ wr.cell? ⟨g, j * 6 + 1, none⟩ = some (.int .i64 (L[j]'(by omega)).trader) ∧ wr.cell? ⟨g, j * 6 + 2, none⟩ = some (.int .i64 (L[j]'(by omega)).book) ∧ wr.cell? ⟨g, j * 6 + 3, none⟩ = some (.int .i64 (L[j]'(by omega)).side) ∧ wr.cell? ⟨g, j * 6 + 4, none⟩ = some (.int .i64 (L[j]'(by omega)).price) ∧ wr.cell? ⟨g, j * 6 + 5, none⟩ = some (.int .i64 (L[j]'(by omega)).opn) := by
  obtain ⟨R, ho, hl, hr⟩ := h.row
  have hlt : j < ((L.take j).filter (isOf t) ++ R ++ L.drop j).length := by rw [hl]; exact hj
  have e : ((L.take j).filter (isOf t) ++ R ++ L.drop j)[j] = L[j]'(by omega) := by
    rw [List.getElem_append_right (by simp; have := h.len; omega)]
    simp only [List.getElem_drop]
    congr 1
    simp
    have := h.len
    omega
  obtain ⟨g', hg', _, _, c0, c1, c2, c3, c4, c5, _⟩ := os_at ho j hlt
  cases hg'
  rw [e] at c0 c1 c2 c3 c4 c5
  exact ⟨c0, c1, c2, c3, c4, c5⟩
theorem DMid.free {w wr : World} {base g n cap N : Nat} {t : Int} {L : List Ord} {i j : Nat} (h : DMid w wr base g n cap N t L i j) : (∃ cur, wr.heap[g]? = some (.cells cur 95 (0, 0)) ∧ cur.size = cap * 6 ∧ cur.toList.take (i * 6) = ((L.take j).filter (isOf t)).flatMap Ord.cells) ∧ n ≤ cap ∧ cap ≤ maxLen ∧ base ≤ g := by
  obtain ⟨R, ho, hl, hr⟩ := h.row
  rcases ho.2 with ⟨h0, _⟩ | ⟨g', cap', cur, hv, hb, hg, hn, hm, hcs, ht⟩
  · cases h0
  · simp only [Value.slice.injEq, Option.some.injEq, Addr.mk.injEq, and_true] at hv
    obtain ⟨rfl, hln, rfl⟩ := hv
    refine ⟨⟨cur, hg, hcs, ?_⟩, by omega, hm, hb⟩
    rw [hl] at ht
    have h1 := congrArg (List.take (i * 6)) ht
    rw [List.take_take, Nat.min_eq_left (by have := h.lt; have := h.le; omega)] at h1
    rw [h1, List.append_assoc, List.flatMap_append, List.take_append_of_le_length (by rw [flat_len Ord.len, h.len]; exact Nat.le_refl _), List.take_of_length_le (by rw [flat_len Ord.len, h.len]; exact Nat.le_refl _)]

theorem filter_all {t : Int} {L : List Ord} (h : L.findIdx? (fun o => o.trader != t) = none) : L.filter (isOf t) = L := by
  rw [List.findIdx?_eq_none_iff] at h
  refine List.filter_eq_self.2 fun o ho => ?_
  have := h o ho
  simpa [isOf] using this
theorem filter_take {t : Int} {L : List Ord} {k : Nat} (h : ∀ j (hj : j < L.length), j < k → (L[j].trader != t) = false) : (L.take k).filter (isOf t) = L.take k := by
  refine List.filter_eq_self.2 fun o ho => ?_
  obtain ⟨j, hj, rfl⟩ := List.getElem_of_mem ho
  rw [List.length_take] at hj
  rw [List.getElem_take]
  have := h j (by omega) (by omega)
  simpa [isOf] using this

theorem cells6 (w : World) (g o : Nat) (x : Ord) : w.setCells g o x.cells = ((((((w.setCell ⟨g, o, none⟩ (.int .i64 x.id)).setCell ⟨g, o + 1, none⟩ (.int .i64 x.trader)).setCell ⟨g, o + 2, none⟩ (.int .i64 x.book)).setCell ⟨g, o + 3, none⟩ (.int .i64 x.side)).setCell ⟨g, o + 4, none⟩ (.int .i64 x.price)).setCell ⟨g, o + 5, none⟩ (.int .i64 x.opn)) := rfl
theorem row6 {w : World} {g i cap : Nat} {cur : Array Value} {T : TypeId} (h : w.heap[g]? = some (.cells cur T (0, 0))) (hc : cur.size = cap * 6) (hi : i < cap) : ∃ x0 x1 x2 x3 x4 x5, w.cell? ⟨g, i * 6, none⟩ = some x0 ∧ w.cell? ⟨g, i * 6 + 1, none⟩ = some x1 ∧ w.cell? ⟨g, i * 6 + 2, none⟩ = some x2 ∧ w.cell? ⟨g, i * 6 + 3, none⟩ = some x3 ∧ w.cell? ⟨g, i * 6 + 4, none⟩ = some x4 ∧ w.cell? ⟨g, i * 6 + 5, none⟩ = some x5 ∧ ∀ k, w.frozen? ⟨g, k, none⟩ = false := by
  have hk : ∀ k, k < 6 → ∃ x, w.cell? ⟨g, i * 6 + k, none⟩ = some x := fun k hk => Option.isSome_iff_exists.1 (row_cells h (i * 6 + k) (by omega))
  obtain ⟨x0, h0⟩ := hk 0 (by omega)
  obtain ⟨x1, h1⟩ := hk 1 (by omega)
  obtain ⟨x2, h2⟩ := hk 2 (by omega)
  obtain ⟨x3, h3⟩ := hk 3 (by omega)
  obtain ⟨x4, h4⟩ := hk 4 (by omega)
  obtain ⟨x5, h5⟩ := hk 5 (by omega)
  exact ⟨x0, x1, x2, x3, x4, x5, h0, h1, h2, h3, h4, h5, frozen_heap h⟩

set_option maxHeartbeats 4000000 in
set_option maxRecDepth 100000 in
theorem deleteF_some (base g n cap N : Nat) (t : Int) (L : List Ord) (k : Nat) (w : World) (hown : Os w base (.slice (some ⟨g, 0, none⟩) n cap) L) (hL : L.length = n) (hc : w.cell? ⟨N, 0, none⟩ = some (.int .i64 t)) (hN : N < w.heap.size) (hNg : N ≠ g) (hn : n ≤ 10000) (hk : L.findIdx? (fun o => o.trader != t) = some k) :
    Calls Tryz.prog 139 #[.slice (some ⟨g, 0, none⟩) n cap, notV N] w fun e w' => ∃ r, e = .returned r ∧ Os w' base r (L.filter (isOf t)) ∧ Fr (Is g) w w' := by
  obtain ⟨hkl, hkp, hkb⟩ := List.findIdx?_eq_some_iff_getElem.1 hk
  have hg : g < w.heap.size := (hown.lt g rfl).2
  have h0 : ∀ w1, Fr No w w1 → DMid w w1 base g n cap N t L k (k + 1) := fun w1 hf => by
    have hno : ∀ j (hj : j < L.length), j < k → (L[j].trader != t) = false := fun j hj hjk => by have := hkb j hjk; simpa using this
    have e1 : (L.take (k + 1)).filter (isOf t) = L.take k := by
      rw [keep_succ hkl, if_pos (by simpa using hkp), filter_take hno]
    have e2 : L.take k ++ [L[k]] ++ L.drop (k + 1) = L := by
      rw [← List.take_succ_eq_append_getElem hkl, List.take_append_drop]
    refine ⟨⟨[L[k]], ?_, ?_, Nat.add_comm 1 k⟩, ?_, hf.of_no, by omega, by omega, (hf.below.cell (p := ⟨N, 0, none⟩) hN).trans hc⟩
    · rw [e1, e2]; exact own_fr (S := No) hown hf (fun _ _ => id)
    · rw [e1, e2]; exact hL
    · rw [e1]; simp; omega
  have hkn : k < n := by omega
  have HX : Hid (Calls Tryz.prog 163 #[.slice (some ⟨g, 0, none⟩) n cap, .func (.func 140) #[] #[.pointer (some ⟨N, 0, none⟩)]] w fun e w' => e = .returned (.int .i64 (k : Int)) ∧ Fr No w w') := by
    have := indexF_any base _ L t N w hown hc hN (by omega)
    rw [hk] at this
    exact this
  have HL := hide hL
  have H0 := hide h0
  have hkb1 : ((k : Int) == -1) = false := by rw [beq_eq_false_iff_ne]; omega
  clear hown hc hk hkp hkb hL h0 hkl
  unfold notV
  go_enter Tryz.func139, Tryz.ntmps139
  go_wp2_with (go_at_call 163; refine (unhide HX).mono ?_; rintro e w1 ⟨rfl, hf1⟩; have HF1 := hide hf1; clear hf1)
  go_loopw [5, 6] (fun a b wr => ∃ i j : Nat, a = .int .i64 i ∧ b = .int .i64 j ∧ DMid w wr base g n cap N t L i j) (fun _ b _ => n - (intOf b).toNat)
  case atStart => exact ⟨k, k + 1, rfl, rfl, unhide H0 _ (unhide HF1)⟩
  case round =>
    obtain ⟨i, j, rfl, rfl, hm⟩ := hrel
    have hij := hm.lt
    have hjn := hm.le
    have hgr : g < wr.heap.size := Nat.lt_of_lt_of_le hg hm.fr.size
    have hNr : N < wr.heap.size := Nat.lt_of_lt_of_le hN hm.fr.size
    obtain ⟨⟨cur, hgc, hcs, htk⟩, hnc, hcm, hbg⟩ := hm.free
    by_cases hlt : j < n
    · obtain ⟨c0, c1, c2, c3, c4, c5⟩ := hm.at_ (unhide HL) hlt
      have hjl : j < L.length := by rw [unhide HL]; exact hlt
      have hcel := hm.cel
      have HM := hide hm
      have HC := hide (And.intro hcel hjl)
      have HG := hide (And.intro hgc hcs)
      clear hm hcel hgc hcs htk
      generalize hX : ((L[j]'hjl).trader != t) = X
      have HX2 := hide hX
      clear hX
      cases X with
      | true =>
        go_wp2_with fail
        generalize hWa : World.alloc wr _ = Wa
        have hfa : Fr No wr Wa := by rw [← hWa]; exact (Fr.refl _ _).alloc _
        clear hWa
        refine (not_any L[j] t N Wa ((hfa.below.cell (p := ⟨N, 0, none⟩) hNr).trans (unhide HC).1) (Nat.lt_of_lt_of_le hNr hfa.size)).mono ?_
        rintro e w2 ⟨rfl, hf2⟩
        rw [unhide HX2]
        have HF2 := hide (hfa.quiet hf2)
        clear hfa hf2
        go_wp2
        go_roundw
        case rel => exact ⟨i, j + 1, rfl, by go_num, (unhide HM).next (unhide HL) hlt (unhide HX2) (unhide HF2) hNr⟩
        case measure => simp [intOf]; omega
      | false =>
        go_wp2_with fail
        generalize hWa : World.alloc wr _ = Wa
        have hfa : Fr No wr Wa := by rw [← hWa]; exact (Fr.refl _ _).alloc _
        have hqa : Wa.heap[wr.heap.size]? = some (.cells #[.int .i64 L[j].id, .int .i64 L[j].trader, .int .i64 L[j].book, .int .i64 L[j].side, .int .i64 L[j].price, .int .i64 L[j].opn] 95 (0, 0)) := by rw [← hWa]; exact heap_alloc_new wr _
        clear hWa
        refine (not_any L[j] t N Wa ((hfa.below.cell (p := ⟨N, 0, none⟩) hNr).trans (unhide HC).1) (Nat.lt_of_lt_of_le hNr hfa.size)).mono ?_
        rintro e w2 ⟨rfl, hf2⟩
        rw [unhide HX2]
        have hf := hfa.quiet hf2
        have HF2 := hide hf
        obtain ⟨z0, z1, z2, z3, z4, z5, -⟩ := box6 (hf2.heap hqa id)
        obtain ⟨x0, x1, x2, x3, x4, x5, e0, e1, e2, e3, e4, e5, ef⟩ := row6 (hf.heap (unhide HG).1 id) (unhide HG).2 (i := i) (by omega)
        have f0 := ef (i * 6)
        have f1 := ef (i * 6 + 1)
        have f2 := ef (i * 6 + 2)
        have f3 := ef (i * 6 + 3)
        have f4 := ef (i * 6 + 4)
        have f5 := ef (i * 6 + 5)
        have hin : i < n := by omega
        clear hfa hf2 hqa hf ef
        go_wp2
        go_roundw
        case rel => exact ⟨i + 1, j + 1, by go_num, by go_num, by have := (unhide HM).put (unhide HL) hlt (unhide HX2) (unhide HF2) hNr hNg; rw [cells6] at this; exact this⟩
        case measure => simp [intOf]; omega
    · have hjn2 : j = n := by omega
      have hin : i < n := by omega
      have htl : L.take j = L := List.take_of_length_le (by have := unhide HL; omega)
      have hcl : ∀ ty c, (Builtin.clear_ #[53] ty #[.slice (some ⟨g, i * 6, none⟩) (n - i) c]).run Tryz.prog wr = .ok (.tuple #[]) (wr.setCells g (i * 6) (Builtin.zeroCells zOrd.cells (n - i)).toList) := fun ty c =>
        run_clear_many wr _ _ ty Tryz.underlying53 zeroOrd g (i * 6) (n - i) c (by omega) (fun q hq => row_cells hgc _ (by omega)) (fun q hq => frozen_heap hgc _)
      have hend : Hid (Os (wr.setCells g (i * 6) (Builtin.zeroCells zOrd.cells (n - i)).toList) base (.slice (some ⟨g, 0, none⟩) i cap) (L.filter (isOf t)) ∧ Fr (Is g) w (wr.setCells g (i * 6) (Builtin.zeroCells zOrd.cells (n - i)).toList)) := by
        have hle := hm.len
        rw [htl] at hle htk
        refine ⟨⟨by rw [flat_len Ord.len], .inr ⟨g, cap, _, by rw [hle], hbg, heap_cells _ _ wr cur hgc (by rw [zero_len]; omega), by omega, hcm, ?_, ?_⟩⟩, hm.fr.same (fr_cells (.inr (Is.self g)) _ _ _ (Fr.refl _ _))⟩
        · simp only [List.size_toArray, List.length_append, List.length_take, List.length_drop, Array.length_toList, zeroCells_size]; omega
        · rw [hle]
          simp only
          rw [List.append_assoc, List.take_append_of_le_length (by simp; omega), List.take_of_length_le (by simp; omega), htk]
      generalize (Builtin.zeroCells zOrd.cells (n - i)).toList = Z at hcl hend
      have hcq : ¬ (cap = i) := by omega
      have hic : i ≤ cap := by omega
      have hin' : i ≤ n := by omega
      have hcap63 : cap ≤ 9223372036854775807 := hcm
      clear hm hgc hcs htk htl
      go_wp2
      go_ret
      exact ⟨_, rfl, (unhide hend).1, (unhide hend).2⟩

set_option maxHeartbeats 1000000 in
theorem deleteF_none (base N : Nat) (v : Value) (t : Int) (L : List Ord) (w : World) (hown : Os w base v L) (hc : w.cell? ⟨N, 0, none⟩ = some (.int .i64 t)) (hN : N < w.heap.size) (hn : L.length ≤ 10000) (hk : L.findIdx? (fun o => o.trader != t) = none) :
    Calls Tryz.prog 139 #[v, notV N] w fun e w' => e = .returned v ∧ Fr No w w' := by
  have HX := hide (indexF_any base _ L t N w hown hc hN hn)
  rw [hk, show enc none = -1 from rfl] at HX
  clear hown hc hk
  unfold notV at *
  go_enter Tryz.func139, Tryz.ntmps139
  go_wp2_with (go_at_call 163; refine (unhide HX).mono ?_; rintro e w1 ⟨rfl, hf1⟩; have HF1 := hide hf1; clear hf1)
  go_ret
  exact ⟨rfl, unhide HF1⟩

set_option maxHeartbeats 2000000 in
theorem bOf_any (b bx : Nat) (tr : Bool) (td : Int) (v : Nat → Value) (M : Nat → List Ord) (t : Int) (w : World) (h : PB w b bx tr td v M) :
    Calls Tryz.prog 99 #[.pointer (some ⟨b, 0, none⟩), .int .i64 t] w fun e w' => ∃ r, e = .returned r ∧ Os w' w.heap.size r ((M 0).filter (isOf t) ++ (M 1).filter (isOf t)) ∧ Fr No w w' := by
  rw [← List.filter_append]
  have HB := hide h
  have hl : (M 0 ++ M 1).length ≤ 10000 := by have := h.len 0 (by omega); have := h.len 1 (by omega); simp; omega
  clear h
  have hmf : ∀ (fn : Fn) (first cap : Array Value) (w : World), (Instr.makeFunc fn first cap).run Tryz.prog w = .ok (.func fn first cap) w := fun _ _ _ _ => rfl
  go_enter Tryz.func99, Tryz.ntmps99
  go_wp2_with fail
  generalize hW : World.alloc w _ = W
  have hf : Fr No w W := by rw [← hW]; exact (Fr.refl _ _).alloc _
  have hc : W.cell? ⟨w.heap.size, 0, none⟩ = some (.int .i64 t) := by rw [← hW]; exact cell_heap (heap_alloc_new w _) 0
  have hN : w.heap.size < W.heap.size := by rw [← hW]; simp
  clear hW
  refine (bOrders_any b bx tr td v M W ((unhide HB).no hf)).mono ?_
  rintro e w1 ⟨r1, rfl, ho1, hf1⟩
  have hc1 : w1.cell? ⟨w.heap.size, 0, none⟩ = some (.int .i64 t) := (hf1.below.cell (p := ⟨w.heap.size, 0, none⟩) hN).trans hc
  have hN1 : w.heap.size < w1.heap.size := Nat.lt_of_lt_of_le hN hf1.size
  have HF := hide (hf.quiet hf1)
  generalize hLL : M 0 ++ M 1 = L at *
  have hD : Calls Tryz.prog 139 #[r1, notV w.heap.size] w1 fun e w' => ∃ r, e = .returned r ∧ Os w' w.heap.size r (L.filter (isOf t)) ∧ Fr No w w' := by
    have ho2 : Os w1 w.heap.size r1 L := own_base ho1 (fun g hg => by have := (ho1.lt g hg).1; omega)
    cases hk : L.findIdx? (fun o => o.trader != t) with
    | none =>
      refine (deleteF_none w.heap.size w.heap.size r1 t L w1 ho2 hc1 hN1 hl hk).mono ?_
      rintro e w2 ⟨rfl, hf2⟩
      exact ⟨r1, rfl, by rw [filter_all hk]; exact own_fr (S := No) ho2 hf2 (fun _ _ => id), (unhide HF).quiet hf2⟩
    | some k =>
      obtain ⟨a, cap, rfl, _, h0, hs⟩ := own_form ho1
      have hkl := (List.findIdx?_eq_some_iff_getElem.1 hk).1
      cases a with
      | none => have := (h0 rfl).1; omega
      | some ad =>
        obtain ⟨g, rfl, _, hg2, _⟩ := hs ad rfl
        refine (deleteF_some w.heap.size g L.length cap w.heap.size t L k w1 ho2 rfl hc1 hN1 (by omega) hl hk).mono ?_
        rintro e w2 ⟨r2, rfl, ho3, hf3⟩
        exact ⟨r2, rfl, ho3, (unhide HF).trans hf3 (fun q hq e => by have : q = g := e; omega)⟩
  unfold notV at hD
  have HD := hide hD
  clear hD hc hc1 ho1 hf1 hf
  have HLL := hide hLL
  clear hLL
  go_wp2_with (go_at_call 139; refine (unhide HD).mono ?_; rintro e w2 ⟨r2, rfl, ho3, hf3⟩)
  go_ret
  rw [unhide HLL]
  exact ⟨_, rfl, ho3, hf3⟩
end Go.Proofs.YtigpgnjgmaoejaaGreat
