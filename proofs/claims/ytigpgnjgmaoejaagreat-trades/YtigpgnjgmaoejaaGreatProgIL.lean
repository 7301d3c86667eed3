/- slices.Delete of one order, slices.Insert of one order: what the slice that comes back holds. Conditions: the slice lies in memory as its own block, with at most 100000 orders; the place is within it. -/
import Derived.Test.YtigpgnjgmaoejaaGreatLay
import Derived.Shelf.RegionOpenPlain
import Derived.Lib.SliceRun
import Derived.Laws.IdiomCopy
import Derived.Lib.AppendZerosOnto
import Derived.Lib.Overlaps
namespace Go.Proofs.YtigpgnjgmaoejaaGreat
open Go.RowKit

theorem heap_cells {g : Nat} {t : TypeId} : ∀ (vs : List Value) (o : Nat) (w : World) (cur : Array Value), w.heap[g]? = some (.cells cur t (0, 0)) → o + vs.length ≤ cur.size →
    (w.setCells g o vs).heap[g]? = some (.cells (cur.toList.take o ++ vs ++ cur.toList.drop (o + vs.length)).toArray t (0, 0))
  | [], _, _, _, h, _ => by simp only [World.setCells, List.append_nil, List.length_nil, Nat.add_zero, List.take_append_drop, Array.toArray_toList]; exact h
  | v :: r, o, w, cur, h, hl => by
    rw [World.setCells, heap_cells r (o + 1) _ _ (heap_set h o v) (by simp at hl ⊢; omega)]
    have e := list_seg_step cur.toList o v r (by simp at hl ⊢; omega)
    rw [Array.toList_setIfInBounds, e]
    simp
theorem fr_cells {S : Nat → Prop} {a : World} {g : Nat} (hp : a.heap.size ≤ g ∨ S g) : ∀ (vs : List Value) (o : Nat) (w : World), Fr S a w → Fr S a (w.setCells g o vs)
  | [], _, _, h => h
  | v :: r, o, _, h => fr_cells hp r (o + 1) _ (h.setAt g hp o v)

/-- copy of elements of any width. -/
theorem run_copy_wide {P : Program} (size : Nat) (w : World) (dT sT ty elem : TypeId) (b o dLen dCap : Nat) (a : Addr) (sLen sCap : Nat) (cs : List Value)
    (hu : P.underlying dT = some (.slice elem)) (hs : (P.info? elem).map (·.size) = some size) (hn : cs.length = Nat.min sLen dLen * size)
    (hsrc : ∀ j v, cs[j]? = some v → w.cell? (a.add j) = some v) (hc : ∀ j, j < cs.length → (w.cell? ⟨b, o + j, none⟩).isSome = true) (hf : ∀ j, j < cs.length → w.frozen? ⟨b, o + j, none⟩ = false) (h1 : ∀ v ∈ cs, v.oneCell' = true) :
    (Builtin.copy_ #[dT, sT] ty #[.slice (some ⟨b, o, none⟩) dLen dCap, .slice (some a) sLen sCap]).run P w = .ok (goInt (Nat.min sLen dLen)) (w.setCells b o cs) := by
  have hl := run_loadCells_list (P := P) w a cs hsrc
  have hst := run_storeCells_cells (P := P) b o cs 0 w (by simpa using hc) (by simpa using hf) h1
  cases hq : P.info? elem with
  | none => simp [hq] at hs
  | some i =>
    have hi : i.size = size := by simpa [hq] using hs
    simp [Builtin.copy_, run_underlying hu, Builtin.lenOf, Builtin.firstCells, sizeOf, typeInfo, hq, hi, ← hn, hl, hst]

def zCells : List Value := [.int .i64 0, .int .i64 0, .int .i64 0, .int .i64 0, .int .i64 0, .int .i64 0]
/-- clear of one order. -/
theorem run_clear_one {P : Program} (w : World) (t e ty : TypeId) (ht : P.underlying t = some (.slice e)) (hv : ∀ w, (zeroValue e).run P w = .ok zOrd w) (b o c : Nat)
    (hc : ∀ j, j < 6 → (w.cell? ⟨b, o + j, none⟩).isSome = true) (hf : ∀ j, j < 6 → w.frozen? ⟨b, o + j, none⟩ = false) :
    (Builtin.clear_ #[t] ty #[.slice (some ⟨b, o, none⟩) 1 c]).run P w = .ok (.tuple #[]) (w.setCells b o zCells) := by
  have hzc : (Builtin.zeroCells zOrd.cells 1).toList = zCells := by kernel_rfl
  have hst := run_storeCells_cells (P := P) b o zCells 0 w (by simpa [zCells] using hc) (by simpa [zCells] using hf) (by intro v hv'; simp [zCells] at hv'; subst hv'; rfl)
  simp only [Nat.add_zero] at hst
  simp [Builtin.clear_, run_underlying ht, hv, hzc, hst]

theorem flat_take {α : Type} {f : α → List Value} {s : Nat} (hs : ∀ a, (f a).length = s) : ∀ (L : List α) (i : Nat), (L.take i).flatMap f = (L.flatMap f).take (i * s)
  | [], i => by simp
  | x :: L, 0 => by simp
  | x :: L, i + 1 => by
    rw [List.take_succ_cons, List.flatMap_cons, List.flatMap_cons, flat_take hs L i, List.take_append, hs]
    rw [List.take_of_length_le (l := f x) (by rw [hs, Nat.add_mul]; omega), show (i + 1) * s - s = i * s by rw [Nat.add_mul]; omega]
theorem flat_drop {α : Type} {f : α → List Value} {s : Nat} (hs : ∀ a, (f a).length = s) : ∀ (L : List α) (i : Nat), (L.drop i).flatMap f = (L.flatMap f).drop (i * s)
  | [], i => by simp
  | x :: L, 0 => by simp
  | x :: L, i + 1 => by
    rw [List.drop_succ_cons, List.flatMap_cons, flat_drop hs L i, List.drop_append, hs]
    rw [List.drop_of_length_le (l := f x) (by rw [hs, Nat.add_mul]; omega), show (i + 1) * s - s = i * s by rw [Nat.add_mul]; omega, List.nil_append]

theorem zeroOrd : ∀ w, (zeroValue 95).run Tryz.prog w = .ok zOrd w := fun w => by
  obtain ⟨i0, hi, hz0, _, _⟩ := info_parts infoOrd
  simp [zeroValue, typeInfo, hi, hz0]

/-- A row whose front is told, and its cells. -/
theorem row_cells {w : World} {g : Nat} {cur : Array Value} {e : TypeId} (hg : w.heap[g]? = some (.cells cur e (0, 0))) (k : Nat) (hk : k < cur.size) : (w.cell? ⟨g, k, none⟩).isSome = true := by
  rw [cell_heap hg, Array.getElem?_eq_getElem hk]; rfl

set_option maxHeartbeats 1000000 in
set_option maxRecDepth 100000 in
theorem delete_any' (base : Nat) (v : Value) (L : List Ord) (i : Nat) (w : World) (hown : Os w base v L) (hi : i < L.length) (hn : L.length ≤ 100000) (j : Nat) (hj : j = i + 1) :
    Calls Tryz.prog 162 #[v, .int .i64 (i : Int), .int .i64 (j : Int)] w fun e w' => ∃ v', e = .returned v' ∧ Os w' base v' (L.eraseIdx i) ∧ Fr (OwnS v) w w' ∧ v'.ownBlock = v.ownBlock := by
  have mixed : Tryz.prog.follows Departure.mixedOrders = true := by kernel_rfl
  obtain ⟨hxl, h2⟩ := hown
  rcases h2 with ⟨_, h0⟩ | ⟨g, cap, cur, rfl, hb, hg, hnc, hcm, hcs, ht⟩
  · omega
  generalize hnn : L.length = n at *
  obtain ⟨i0, hi0, hz0, hz1, hz2⟩ := info_parts infoOrd
  obtain ⟨news, hnews⟩ : ∃ news, news = (L.drop j).flatMap Ord.cells := ⟨_, rfl⟩
  have hlen : news.length = (n - j) * 6 := by rw [hnews, flat_len Ord.len, List.length_drop, hnn]
  have hcell : ∀ t u, news[t]? = some u → w.cell? ⟨g, j * 6 + t, none⟩ = some u := by
    intro t u hu
    have htl : t < (n - j) * 6 := by rw [← hlen]; exact (List.getElem?_eq_some_iff.1 hu).1
    rw [hnews, flat_drop Ord.len, ← ht, List.getElem?_drop, List.getElem?_take, if_pos (by omega)] at hu
    rw [cell_heap hg]
    simpa using hu
  obtain ⟨A, hA, hsrc⟩ : ∃ A : Addr, (if cap = j then some (⟨g, 0, none⟩ : Addr) else some ⟨g, j * 6, none⟩) = some A ∧ Hid (∀ t u, news[t]? = some u → w.drew.cell? (A.add t) = some u) := by
    by_cases h : cap = j
    · refine ⟨⟨g, 0, none⟩, by simp [h], fun t u hu => ?_⟩
      have h0 : news.length = 0 := by rw [hlen]; omega
      rw [List.length_eq_zero_iff.1 h0] at hu
      simp at hu
    · exact ⟨⟨g, j * 6, none⟩, by simp [h], fun t u hu => by rw [Addr.add_lit]; exact hcell t u hu⟩
  have s1 : Hid (news.length = (n - j) * 6) := hlen
  have s2 : Hid (∀ u ∈ news, u.oneCell' = true) := by rw [hnews]; exact flat_one os_one _
  have s3 : Hid (∀ t, t < news.length → (w.drew.cell? ⟨g, 0 + i * 6 + t, none⟩).isSome = true ∧ w.drew.frozen? ⟨g, 0 + i * 6 + t, none⟩ = false) := by
    intro t htl
    rw [hlen] at htl
    exact ⟨row_cells (w := w) hg _ (by omega), frozen_heap (w := w) hg _⟩
  obtain ⟨W1, hW1⟩ : ∃ W1, W1 = w.drew.setCells g (0 + i * 6) news := ⟨_, rfl⟩
  have hg1 : W1.heap[g]? = some (.cells (cur.toList.take (0 + i * 6) ++ news ++ cur.toList.drop (0 + i * 6 + news.length)).toArray 95 (0, 0)) := by
    rw [hW1]; exact heap_cells news _ w.drew cur hg (by omega)
  generalize hcur1 : (cur.toList.take (0 + i * 6) ++ news ++ cur.toList.drop (0 + i * 6 + news.length)).toArray = cur1 at hg1
  have hsz1 : cur1.size = cap * 6 := by rw [← hcur1]; simp; omega
  have hcl : ∀ ty c, (Builtin.clear_ #[53] ty #[.slice (some ⟨g, (i + (n - j)) * 6, none⟩) (n - (i + (n - j))) c]).run Tryz.prog W1 = .ok (.tuple #[]) (W1.setCells g ((n - 1) * 6) zCells) := fun ty c => by
    rw [show i + (n - j) = n - 1 by omega, show n - (n - 1) = 1 by omega]
    exact run_clear_one W1 _ _ ty Tryz.underlying53 zeroOrd g _ c (fun j hj => row_cells hg1 _ (by omega)) (fun j hj => frozen_heap hg1 _)
  have hfr1 : Fr (OwnS (.slice (some ⟨g, 0, none⟩) n cap)) w W1 := by rw [hW1]; exact fr_cells (S := OwnS (.slice (some ⟨g, 0, none⟩) n cap)) (.inr rfl) _ _ _ (Fr.refl _ _).drew
  have HW : Hid (W1 = w.drew.setCells g (0 + i * 6) news) := hW1
  have hend : Hid (∃ v', (Value.slice (some ⟨g, 0, none⟩) (i + (n - j)) cap) = v' ∧ Os (W1.setCells g ((n - 1) * 6) zCells) base v' (L.eraseIdx i) ∧ Fr (OwnS (.slice (some ⟨g, 0, none⟩) n cap)) w (W1.setCells g ((n - 1) * 6) zCells) ∧ v'.ownBlock = some g) := by
    have hel : (L.eraseIdx i).length = n - 1 := by rw [List.length_eraseIdx_of_lt (by omega), hnn]
    rw [show i + (n - j) = n - 1 by omega]
    refine ⟨_, rfl, ⟨by rw [flat_len Ord.len], .inr ⟨g, cap, _, by rw [hel], hb, heap_cells zCells _ W1 cur1 hg1 (by simp [zCells]; omega), by rw [hel]; omega, hcm, ?_, ?_⟩⟩, fr_cells (S := OwnS (.slice (some ⟨g, 0, none⟩) n cap)) (.inr rfl) _ _ _ hfr1, rfl⟩
    · simp [zCells]; omega
    · rw [hel, List.eraseIdx_eq_take_drop_succ, ← hj, List.flatMap_append, flat_take Ord.len, ← ht, ← hnews, ← hcur1]
      simp only [Nat.zero_add, List.append_assoc]
      rw [List.take_append_of_le_length (by simp; omega), List.take_take, Nat.min_self, List.take_take, show min (i * 6) (n * 6) = i * 6 by omega]
      rw [List.take_append, List.length_take, Array.length_toList, show min (i * 6) cur.size = i * 6 by omega, List.take_of_length_le (l := List.take (i * 6) cur.toList) (by simp; omega)]
      rw [List.take_append, List.take_of_length_le (l := news) (by omega), show (n - 1) * 6 - i * 6 - news.length = 0 by omega, List.take_zero, List.append_nil]
  have hjn : j ≤ n := by omega
  have hij : ¬ (i = j) := by omega
  have hij' : i ≤ j := by omega
  have hcq : ¬ (cap = i + (n - j)) := by omega
  have hqn : i + (n - j) ≤ n := by omega
  have hic : i ≤ cap := by omega
  have hjc : j ≤ cap := by omega
  have hcap63 : cap ≤ 9223372036854775807 := hcm
  have hroom : i + (n - j) ≤ cap := by omega
  clear hg1 hcur1 hsz1 hfr1 hW1 hg ht hcs hnews hlen hcell hnn hxl hb hcm hj
  go_enter Tryz.func162, Tryz.ntmps162
  go_wp2_with fail
  go_region_law_o (refine step_append_room rfl (.tmp 22) (.tmp 25) 53 rfl 95 i0 6 Tryz.underlying53 hi0 hz1 g 0 i cap (by simp [Act.eval, Act.put]) A (n - j) (cap - j) news (by simp [Act.eval, Act.put]) s1.out hsrc.out s2.out hroom s3.out ?_; rw [← HW.out])
  go_wp2
  go_ret
  obtain ⟨v', rfl, h1, h2, h3⟩ := unhide hend
  exact ⟨_, rfl, h1, h2, h3⟩
theorem delete_any (base : Nat) (v : Value) (L : List Ord) (i : Nat) (w : World) (hown : Os w base v L) (hi : i < L.length) (hn : L.length ≤ 100000) :
    Calls Tryz.prog 162 #[v, .int .i64 (i : Int), .int .i64 ((i : Int) + 1)] w fun e w' => ∃ v', e = .returned v' ∧ Os w' base v' (L.eraseIdx i) ∧ Fr (OwnS v) w w' ∧ v'.ownBlock = v.ownBlock :=
  delete_any' base v L i w hown hi hn (i + 1) rfl
end Go.Proofs.YtigpgnjgmaoejaaGreat

/- slices.Insert of one order: what the slice that comes back holds. Conditions: the slice lies in memory as its own block, with at most 100000 orders; the place is within it; the order lies in a block of its own. -/
namespace Go.Proofs.YtigpgnjgmaoejaaGreat
open Go.RowKit

theorem own_eq' {g n c g' : Nat} (h : OwnS (Value.slice (some ⟨g, 0, none⟩) n c) g') : g = g' := by
  simpa [OwnS, Value.ownBlock] using h

def InsPost (w : World) (base : Nat) (v : Value) (L' : List Ord) (e : Ending) (w' : World) : Prop :=
  ∃ v', e = .returned v' ∧ Os w' base v' L' ∧ Fr (OwnS v) w w' ∧ ∀ g, OwnS v' g → OwnS v g ∨ w.heap.size ≤ g

theorem ord_news {w : World} {vb : Nat} {x : Ord} {T : TypeId} (h : w.heap[vb]? = some (.cells x.cells.toArray T (0, 0))) : ∀ j u, (List.flatMap Ord.cells [x])[j]? = some u → w.cell? ((⟨vb, 0, none⟩ : Addr).add j) = some u := by
  intro j u hu
  rw [Addr.add_lit, cell_heap h]
  simpa using hu

set_option maxHeartbeats 1000000 in
theorem insert_end (base : Nat) (v : Value) (L : List Ord) (x : Ord) (vb : Nat) (w : World) (hown : Os w base v L) (hn : L.length ≤ 100000) (hbase : base ≤ w.heap.size) (hx : w.heap[vb]? = some (.cells x.cells.toArray 95 (0, 0))) :
    Calls Tryz.prog 159 #[v, .int .i64 (L.length : Int), .slice (some ⟨vb, 0, none⟩) 1 1] w (InsPost w base v (L ++ [x])) := by
  obtain ⟨a, cap, rfl, hcap, _⟩ := own_form hown
  have HN := hide (ord_news hx)
  have HO := hide hown
  have HB := hide hbase
  clear hown hx
  generalize hnn : L.length = n at *
  have Hn := hide hnn
  clear hnn
  have HNN := hide hn
  have hlt : ∀ g, OwnS (.slice a n cap) g → g < w.heap.size := fun g hg => ((unhide HO).lt g hg).2
  have HLT := hide hlt
  clear hlt
  cases a with
  | none =>
    go_enter Tryz.func159, Tryz.ntmps159
    go_wp2_with (at_builtin; refine app_ord rfl (.tmp 23) (.tmp 24) rfl base _ L (unhide HO) rfl ⟨vb, 0, none⟩ 1 1 [x] rfl rfl (by simp) (unhide HN) (by have := unhide Hn; simp; omega) (unhide HB) ?_; intro g1 c1 w1 hown1 hfr1 hat1 hlt1)
    all_goals
      go_ret
      exact ⟨_, rfl, hown1, hfr1, fun g hg => by have e := own_eq' hg; subst e; exact hat1.imp id (fun e => by omega)⟩
  | some ad =>
    obtain ⟨ab, ao, asp⟩ := ad
    go_enter Tryz.func159, Tryz.ntmps159
    go_wp2_with (at_builtin; refine app_ord rfl (.tmp 23) (.tmp 24) rfl base _ L (unhide HO) rfl ⟨vb, 0, none⟩ 1 1 [x] rfl rfl (by simp) (unhide HN) (by have := unhide Hn; simp; omega) (unhide HB) ?_; intro g1 c1 w1 hown1 hfr1 hat1 hlt1)
    all_goals
      go_ret
      exact ⟨_, rfl, hown1, hfr1, fun g hg => by have e := own_eq' hg; subst e; exact hat1.imp id (fun e => by omega)⟩
end Go.Proofs.YtigpgnjgmaoejaaGreat

/- slices.Insert of one order where there is room. Conditions as in ProgJ's text. -/
namespace Go.Proofs.YtigpgnjgmaoejaaGreat
open Go.RowKit

theorem wp_copy_run {P : Program} (w : World) {o : Oper} {a : Act} {K : Act → World → Prop} {Q : Exit → Act → World → Prop} (d s : Operand) (t t' : TypeId)
    (ho : o.op = .call { callee := .builtin .copy, args := #[d, s], argTypes := #[t, t'] }) (v u : Value) (hd : a.eval d = v) (hs : a.eval s = u) {v' : Value} {w' : World}
    (hr : (Builtin.copy_ #[t, t'] o.type #[v, u]).run P w = .ok v' w') (h : K (a.put o.dst v') w') : o.wp P a w K Q := by
  unfold Oper.wp execOp
  simp only [ho, resolve, invoke, builtin, Sem.run_bind, Sem.run_pure, Result.andThen_ok, List.map_toArray, List.map_cons, List.map_nil, hd, hs, hr]
  exact h
theorem wpList_copy_run {P : Program} (w : World) {ops : Array Oper} {rest : List Oper} {o : Oper} {a : Act} {Q : Exit → Act → World → Prop} (hgd : o.guard = none) (d s : Operand) (t t' : TypeId)
    (ho : o.op = .call { callee := .builtin .copy, args := #[d, s], argTypes := #[t, t'] }) (v u : Value) (hd : a.eval d = v) (hs : a.eval s = u) {v' : Value} {w' : World}
    (hr : (Builtin.copy_ #[t, t'] o.type #[v, u]).run P w = .ok v' w') (h : wpList P ops Q rest (a.put o.dst v') w') : wpList P ops Q (o :: rest) a w :=
  wpList_plain hgd fun _ hK => wp_copy_run w d s t t' ho v u hd hs hr (hK _ _ h)
theorem step_copy_run {P : Program} {ops : Array Oper} {o : Oper} {a : Act} {w : World} {K : Act → World → Prop} {Q : Exit → Act → World → Prop} {E : Prop}
    (hg : o.guard = none) (d x : Operand) (dT sT : TypeId) (hop : o.op = Op.call { callee := Callee.builtin Builtin.copy, args := #[d, x], argTypes := #[dT, sT] })
    (v u : Value) (hd : a.eval d = v) (hx : a.eval x = u) {v' : Value} {w' : World} (hr : (Builtin.copy_ #[dT, sT] o.type #[v, u]).run P w = .ok v' w') (hK : K (a.put o.dst v') w') :
    if Region.wanted o (yielded ops a.tmps) = true then Oper.wp P o a w K Q else E := by
  have hw : Region.wanted o (yielded ops a.tmps) = true := by simp [Region.wanted, hg]
  rw [if_pos hw]
  unfold Oper.wp
  simp [execOp, hop, resolve, invoke, builtin, hd, hx, hr, Result.andThen]
  exact hK

theorem take_row {A B C : List Value} {k : Nat} (h : k = A.length + B.length) : (A ++ B ++ C).take k = A ++ B := by
  rw [List.take_append_of_le_length (by simp; omega), List.take_of_length_le (by simp; omega)]

set_option maxHeartbeats 4000000 in
set_option maxRecDepth 100000 in
theorem insert_shift (base g n cap : Nat) (L : List Ord) (i : Nat) (x : Ord) (vb : Nat) (w : World) (hown : Os w base (.slice (some ⟨g, 0, none⟩) n cap) L) (hnn : n = L.length) (hi : i < n) (hroom : n + 1 ≤ cap) (hn : n ≤ 100000)
    (hx : w.heap[vb]? = some (.cells x.cells.toArray 95 (0, 0))) (hvb : vb ≠ g) :
    Calls Tryz.prog 159 #[.slice (some ⟨g, 0, none⟩) n cap, .int .i64 (i : Int), .slice (some ⟨vb, 0, none⟩) 1 1] w (InsPost w base (.slice (some ⟨g, 0, none⟩) n cap) (L.take i ++ x :: L.drop i)) := by
  have mixed : Tryz.prog.follows Departure.mixedOrders = true := by kernel_rfl
  obtain ⟨hxl, h2⟩ := hown
  rcases h2 with ⟨h0, _⟩ | ⟨g', cap', cur, hv, hb, hg, hnc, hcm, hcs, ht⟩
  · cases h0
  simp only [Value.slice.injEq, Option.some.injEq, Addr.mk.injEq, and_true] at hv
  obtain ⟨rfl, h0, rfl⟩ := hv
  rw [← hnn] at hnc ht hxl
  clear h0
  have hsz : (Tryz.prog.info? 95).map (·.size) = some 6 := by
    obtain ⟨i0, hi0, _, hz1, _⟩ := info_parts infoOrd
    rw [hi0]; simp [hz1]
  have hsz6 : ∀ w, (Go.sizeOf 95).run Tryz.prog w = .ok 6 w := fun w => by
    obtain ⟨i0, hi0, _, hz1, _⟩ := info_parts infoOrd
    simp [Go.sizeOf, typeInfo, hi0, hz1]
  have hov : ∀ lb cb, (callFunc 169 #[.slice (some ⟨vb, 0, none⟩) 1 1, .slice (some ⟨g, (i + 1) * 6, none⟩) lb cb]).run Tryz.prog w = .ok (.value (.bool false)) w := fun lb cb => by
    rw [run_callFunc_extern Tryz.func169 (by kernel_rfl) (by kernel_rfl) (by kernel_rfl) (e := Extern.SlicesOverlaps.overlaps #[53, 53] #[4]) (by kernel_rfl),
      Lib.run_overlaps_apart w 53 4 95 Tryz.underlying53 6 hsz6 ⟨vb, 0, none⟩ ⟨g, (i + 1) * 6, none⟩ 1 1 lb cb hvb 95 95 6 cur.size (by simp [World.shape?, hx, Ord.cells]) (by simp [World.shape?, hg]) (by omega) (frozen_heap hx _) (frozen_heap hx _)]
    rfl
  obtain ⟨cs, hcsd⟩ : ∃ cs, cs = (L.drop i).flatMap Ord.cells := ⟨_, rfl⟩
  have hdl : cs.length = (n - i) * 6 := by rw [hcsd, flat_len Ord.len, List.length_drop, ← hnn]
  have hcell : ∀ t u, cs[t]? = some u → w.cell? ⟨g, i * 6 + t, none⟩ = some u := by
    intro t u hu
    have htl : t < (n - i) * 6 := by rw [← hdl]; exact (List.getElem?_eq_some_iff.1 hu).1
    rw [hcsd, flat_drop Ord.len, ← ht, List.getElem?_drop, List.getElem?_take, if_pos (by omega)] at hu
    rw [cell_heap hg]
    simpa using hu
  have h1c : ∀ u ∈ cs, u.oneCell' = true := by rw [hcsd]; exact flat_one os_one _
  have hcp1 : ∀ ty dc sc, (Builtin.copy_ #[53, 53] ty #[.slice (some ⟨g, (i + 1) * 6, none⟩) (n - i) dc, .slice (some ⟨g, i * 6, none⟩) (n + 1 - i) sc]).run Tryz.prog w.drew = .ok (goInt ((n - i : Nat) : Int)) (w.drew.setCells g ((i + 1) * 6) cs) := fun ty dc sc => by
    have e : Nat.min (n + 1 - i) (n - i) = n - i := Nat.min_eq_right (by omega)
    have := run_copy_wide (P := Tryz.prog) 6 w.drew 53 53 ty 95 g ((i + 1) * 6) (n - i) dc ⟨g, i * 6, none⟩ (n + 1 - i) sc cs Tryz.underlying53 hsz (by rw [hdl, e])
      (fun j u hj => by rw [Addr.add_lit]; exact hcell j u hj) (fun j hj => row_cells (w := w) hg _ (by rw [hdl] at hj; omega)) (fun j _ => frozen_heap (w := w) hg _) h1c
    rw [e] at this
    exact this
  obtain ⟨W1, hW1⟩ : ∃ W1, W1 = w.drew.setCells g ((i + 1) * 6) cs := ⟨_, rfl⟩
  have hg1 : W1.heap[g]? = some (.cells (cur.toList.take ((i + 1) * 6) ++ cs ++ cur.toList.drop ((i + 1) * 6 + cs.length)).toArray 95 (0, 0)) := by
    rw [hW1]; exact heap_cells cs _ w.drew cur hg (by omega)
  generalize hcur1 : (cur.toList.take ((i + 1) * 6) ++ cs ++ cur.toList.drop ((i + 1) * 6 + cs.length)).toArray = cur1 at hg1
  have hsz1 : cur1.size = cap * 6 := by rw [← hcur1]; simp; omega
  have hfr1 : Fr (OwnS (.slice (some ⟨g, 0, none⟩) n cap)) w W1 := by rw [hW1]; exact fr_cells (S := OwnS (.slice (some ⟨g, 0, none⟩) n cap)) (.inr rfl) _ _ _ (Fr.refl _ _).drew
  have hx1 : W1.heap[vb]? = some (.cells x.cells.toArray 95 (0, 0)) := hfr1.heap hx (fun h => hvb (own_eq' h).symm)
  have hcp2 : ∀ ty dc, (Builtin.copy_ #[53, 53] ty #[.slice (some ⟨g, i * 6, none⟩) (n + 1 - i) dc, .slice (some ⟨vb, 0, none⟩) 1 1]).run Tryz.prog W1 = .ok (goInt 1) (W1.setCells g (i * 6) x.cells) := fun ty dc => by
    have e : Nat.min 1 (n + 1 - i) = 1 := by simp only [Nat.min_def]; split <;> omega
    have := run_copy_wide (P := Tryz.prog) 6 W1 53 53 ty 95 g (i * 6) (n + 1 - i) dc ⟨vb, 0, none⟩ 1 1 x.cells Tryz.underlying53 hsz (by rw [e]; rfl)
      (fun j u hj => ord_news hx1 j u (by simpa using hj)) (fun j hj => row_cells (w := W1) hg1 _ (by simp [Ord.cells] at hj; omega)) (fun j _ => frozen_heap (w := W1) hg1 _) (os_one x)
    rw [e] at this
    exact this
  have hend : Hid (InsPost w base (.slice (some ⟨g, 0, none⟩) n cap) (L.take i ++ x :: L.drop i) (.returned (.slice (some ⟨g, 0, none⟩) (n + 1) cap)) (W1.setCells g (i * 6) x.cells)) := by
    have hll : (L.take i ++ x :: L.drop i).length = n + 1 := by simp; omega
    have hxc : x.cells.length = 6 := rfl
    refine ⟨_, rfl, ⟨by rw [flat_len Ord.len], .inr ⟨g, cap, _, by rw [hll], hb, heap_cells x.cells _ W1 cur1 hg1 (by simp [Ord.cells]; omega), by rw [hll]; omega, hcm, ?_, ?_⟩⟩, fr_cells (S := OwnS (.slice (some ⟨g, 0, none⟩) n cap)) (.inr rfl) _ _ _ hfr1, fun k hk => .inl (own_eq' hk ▸ rfl)⟩
    · simp [Ord.cells]; omega
    · rw [hll, List.flatMap_append, List.flatMap_cons, ← hcsd, flat_take Ord.len, ← ht, ← hcur1, hxc]
      have e1 : (cur.toList.take ((i + 1) * 6) ++ cs ++ cur.toList.drop ((i + 1) * 6 + cs.length)).drop (i * 6 + 6) = cs ++ cur.toList.drop ((i + 1) * 6 + cs.length) := by
        rw [List.append_assoc, List.drop_append, List.drop_of_length_le (l := cur.toList.take ((i + 1) * 6)) (by simp; omega), List.length_take, Array.length_toList, show i * 6 + 6 - min ((i + 1) * 6) cur.size = 0 by omega]
        rfl
      have e2 : (cur.toList.take ((i + 1) * 6) ++ cs ++ cur.toList.drop ((i + 1) * 6 + cs.length)).take (i * 6) = cur.toList.take (i * 6) := by
        rw [List.append_assoc, List.take_append_of_le_length (by simp; omega), List.take_take, show min (i * 6) ((i + 1) * 6) = i * 6 by omega]
      simp only [e1, e2, List.take_take, show min (i * 6) (n * 6) = i * 6 by omega]
      rw [← List.append_assoc, take_row (by simp; omega), List.append_assoc]
  have hw1 : IntKind.i64.wrap ((i : Int) + 1) = (i : Int) + 1 := by rw [IntKind.wrap_i64]; omega
  have hb1 : (0 : Int) ≤ (i : Int) + 1 := by omega
  have htn : ((i : Int) + 1).toNat = i + 1 := by omega
  have hb2 : ¬ (cap = i + 1) := by omega
  have hb3 : (i : Int) ≤ (n : Int) + 1 := by omega
  have hb4 : ¬ (cap = i) := by omega
  have hin : i ≤ n := by omega
  have hz2 : ¬ ((i : Int) = (n : Int)) := by omega
  have hcap63 : cap ≤ 9223372036854775807 := hcm
  rw [← hW1] at hcp1
  clear hg1 hcur1 hsz1 hfr1 hW1 hg ht hcs hcsd hdl hcell hxl hb hcm hx1 h1c hsz6 hsz hnn hx
  go_enter Tryz.func159, Tryz.ntmps159
  go_wp2_with (simp only [hov])
  go_region_law_o (refine step_copy_run rfl _ _ 53 53 rfl _ _ (by simp [Act.eval, Act.put]) (by simp [Act.eval, Act.put]) (hcp1 _ _ _) ?_)
  go_wp2_with (at_builtin; refine wpList_copy_run _ rfl _ _ 53 53 rfl _ _ rfl rfl (hcp2 _ _) ?_)
  go_ret
  exact unhide hend
end Go.Proofs.YtigpgnjgmaoejaaGreat

/- slices.Insert of one order where there is no room, and in all. Conditions as in ProgJ's text. -/
namespace Go.Proofs.YtigpgnjgmaoejaaGreat
open Go.RowKit

theorem zeroCells_size (k : Nat) : (Builtin.zeroCells zOrd.cells k).size = k * 6 := by
  simp [Builtin.zeroCells, zOrd, Value.cells]

set_option maxHeartbeats 4000000 in
set_option maxRecDepth 100000 in
theorem grow_walk (g n cap i vb G : Nat) (ROW : Array Value) (xs cs : List Value) (w : World) (hi : i < n) (hnc : n ≤ cap) (hroom : cap < n + 1) (hn : n ≤ 100000) (hGn : n + 1 ≤ G) (hG63 : G ≤ 9223372036854775807)
    (hrz : ∀ ty, (Builtin.append_ #[53, 3] ty #[.slice (some ⟨g, 0, none⟩) i cap, .int .i64 ((n : Int) + 1 - (i : Int))]).run Tryz.prog w =
      .ok (.slice (some ⟨w.heap.size, 0, none⟩) (n + 1) G) (w.drew.alloc (.cells ROW 95)))
    (hcpA : ∀ ty dc, (Builtin.copy_ #[53, 53] ty #[.slice (some ⟨w.heap.size, i * 6, none⟩) (n + 1 - i) dc, .slice (some ⟨vb, 0, none⟩) 1 1]).run Tryz.prog (w.alloc (.cells ROW 95)).drew = .ok (goInt 1) ((w.alloc (.cells ROW 95)).drew.setCells w.heap.size (i * 6) xs))
    (hcpB : ∀ ty dc sc, (Builtin.copy_ #[53, 53] ty #[.slice (some ⟨w.heap.size, (i + 1) * 6, none⟩) (n - i) dc, .slice (some ⟨g, i * 6, none⟩) (n - i) sc]).run Tryz.prog ((w.alloc (.cells ROW 95)).drew.setCells w.heap.size (i * 6) xs).drew = .ok (goInt ((n - i : Nat) : Int)) (((w.alloc (.cells ROW 95)).drew.setCells w.heap.size (i * 6) xs).drew.setCells w.heap.size ((i + 1) * 6) cs)) :
    Calls Tryz.prog 159 #[.slice (some ⟨g, 0, none⟩) n cap, .int .i64 (i : Int), .slice (some ⟨vb, 0, none⟩) 1 1] w fun e w' =>
      e = .returned (.slice (some ⟨w.heap.size, 0, none⟩) (n + 1) G) ∧ w' = (((w.alloc (.cells ROW 95)).drew.setCells w.heap.size (i * 6) xs).drew.setCells w.heap.size ((i + 1) * 6) cs) := by
  have mixed : Tryz.prog.follows Departure.mixedOrders = true := by kernel_rfl
  have hw1 : IntKind.i64.wrap ((i : Int) + 1) = (i : Int) + 1 := by rw [IntKind.wrap_i64]; omega
  have hb1 : (0 : Int) ≤ (i : Int) + 1 := by omega
  have htn : ((i : Int) + 1).toNat = i + 1 := by omega
  have hb3 : (i : Int) ≤ (n : Int) := by omega
  have hin : i ≤ n := by omega
  have hz3 : (cap : Int) < (n : Int) + 1 := by omega
  have hz4 : ¬ ((i : Int) = (n : Int)) := by omega
  have hci : ¬ (cap = i) := by omega
  have hGi : ¬ (G = i) := by omega
  have hGim : ¬ (G = i + 1) := by omega
  go_enter Tryz.func159, Tryz.ntmps159
  go_wp2_with (first
    | (at_builtin; refine Lib.wpList_append_run _ rfl _ _ _ _ rfl _ _ rfl rfl _ _ (hrz _) ?_)
    | (at_builtin; refine wpList_copy_run _ rfl _ _ 53 53 rfl _ _ rfl rfl (hcpA _ _) ?_))
  go_region_law_o (refine step_copy_run rfl _ _ 53 53 rfl _ _ (by simp [Act.eval, Act.put]) (by simp [Act.eval, Act.put]) (hcpB _ _ _) ?_)
  go_wp2
  go_ret
  exact ⟨rfl, rfl⟩

theorem drew_heap (w : World) : w.drew.heap = w.heap := rfl

set_option maxHeartbeats 4000000 in
set_option maxRecDepth 100000 in
theorem insert_grow (base g n cap : Nat) (L : List Ord) (i : Nat) (x : Ord) (vb : Nat) (w : World) (hown : Os w base (.slice (some ⟨g, 0, none⟩) n cap) L) (hnn : n = L.length) (hi : i < n) (hroom : cap < n + 1) (hn : n ≤ 100000) (hbase : base ≤ w.heap.size)
    (hx : w.heap[vb]? = some (.cells x.cells.toArray 95 (0, 0))) :
    Calls Tryz.prog 159 #[.slice (some ⟨g, 0, none⟩) n cap, .int .i64 (i : Int), .slice (some ⟨vb, 0, none⟩) 1 1] w (InsPost w base (.slice (some ⟨g, 0, none⟩) n cap) (L.take i ++ x :: L.drop i)) := by
  obtain ⟨hxl, h2⟩ := hown
  rcases h2 with ⟨h0, _⟩ | ⟨g', cap', cur, hv, hb, hg, hnc, hcm, hcs, ht⟩
  · cases h0
  simp only [Value.slice.injEq, Option.some.injEq, Addr.mk.injEq, and_true] at hv
  obtain ⟨rfl, h0, rfl⟩ := hv
  rw [← hnn] at hnc ht hxl
  clear h0
  obtain ⟨i0, hi0, hz0, hz1, hz2⟩ := info_parts infoOrd
  have hsz : (Tryz.prog.info? 95).map (·.size) = some 6 := by rw [hi0]; simp [hz1]
  have hxc : x.cells.length = 6 := rfl
  have hgw : g < w.heap.size := lt_of_heap hg
  have hvw : vb < w.heap.size := lt_of_heap hx
  obtain ⟨cs, hcsd⟩ : ∃ cs, cs = (L.drop i).flatMap Ord.cells := ⟨_, rfl⟩
  obtain ⟨ds, hdsd⟩ : ∃ ds, ds = (L.take i).flatMap Ord.cells := ⟨_, rfl⟩
  have hdl : cs.length = (n - i) * 6 := by rw [hcsd, flat_len Ord.len, List.length_drop, ← hnn]
  have hel : ds.length = i * 6 := by rw [hdsd, flat_len Ord.len, List.length_take, ← hnn, Nat.min_eq_left (by omega)]
  have hcell : ∀ t u, cs[t]? = some u → w.cell? ⟨g, i * 6 + t, none⟩ = some u := by
    intro t u hu
    have htl : t < (n - i) * 6 := by rw [← hdl]; exact (List.getElem?_eq_some_iff.1 hu).1
    rw [hcsd, flat_drop Ord.len, ← ht, List.getElem?_drop, List.getElem?_take, if_pos (by omega)] at hu
    rw [cell_heap hg]
    simpa using hu
  have hdell : ∀ t u, ds[t]? = some u → w.cell? ⟨g, t, none⟩ = some u := by
    intro t u hu
    have htl : t < i * 6 := by rw [← hel]; exact (List.getElem?_eq_some_iff.1 hu).1
    rw [hdsd, flat_take Ord.len, ← ht, List.getElem?_take, if_pos htl, List.getElem?_take, if_pos (by omega)] at hu
    rw [cell_heap hg]
    simpa using hu
  have h1c : ∀ u ∈ cs, u.oneCell' = true := by rw [hcsd]; exact flat_one os_one _
  have hold : (Builtin.firstCells i0.size i (.slice (some ⟨g, 0, none⟩) i cap)).run Tryz.prog w.drew = .ok ds.toArray w.drew := by
    rw [hz1]
    exact run_firstCells_some w.drew 6 i ⟨g, 0, none⟩ i cap ds hel (fun j v hj => by rw [Addr.add_lit, Nat.zero_add]; exact hdell j v hj)
  have hrz : ∀ ty, (Builtin.append_ #[53, 3] ty #[.slice (some ⟨g, 0, none⟩) i cap, .int .i64 ((n : Int) + 1 - (i : Int))]).run Tryz.prog w =
      .ok (.slice (some ⟨w.heap.size, 0, none⟩) (n + 1) (grownCap w (n + 1) cap 95)) (w.drew.alloc (.cells (ds.toArray ++ Builtin.zeroCells zOrd.cells (n + 1 - i) ++ Builtin.zeroCells zOrd.cells (grownCap w (n + 1) cap 95 - (n + 1))) 95)) := fun ty => by
    have hik : i + (n + 1 - i) = n + 1 := by omega
    have h := Lib.run_append_grow_zeros w 53 3 ty 95 i0 _ .i64 .i64 Tryz.underlying53 Tryz.underlying3 hi0 hz0 (some ⟨g, 0, none⟩) i cap ds hold (n + 1 - i) (by omega) (by omega) (by omega) (by omega) (by rw [hz2]; omega) (by rw [hz2, hik]; exact growslice_fits hroom (by omega))
    rw [hik] at h
    rw [show (n : Int) + 1 - (i : Int) = ((n + 1 - i : Nat) : Int) by omega]
    exact h
  obtain ⟨G, hG⟩ : ∃ G, G = grownCap w (n + 1) cap 95 := ⟨_, rfl⟩
  obtain ⟨ROW, hROW⟩ : ∃ ROW : Array Value, ROW = ds.toArray ++ Builtin.zeroCells zOrd.cells (n + 1 - i) ++ Builtin.zeroCells zOrd.cells (G - (n + 1)) := ⟨_, rfl⟩
  rw [← hG] at hrz
  rw [← hROW] at hrz
  have hGn : n + 1 ≤ G := by rw [hG]; exact grownCap_ge w _ _ _
  have hGm : G ≤ maxLen := by rw [hG]; exact grownCap_le_maxLen w (n + 1) cap 95 (by unfold maxLen; omega)
  have hRl : ROW.size = G * 6 := by rw [hROW]; simp only [Array.size_append, zeroCells_size, List.size_toArray, hel]; omega
  have hR0 : ROW.toList.take (i * 6) = ds := by
    rw [hROW]
    simp only [Array.toList_append, List.append_assoc]
    rw [List.take_append_of_le_length (by omega), List.take_of_length_le (by omega)]
  obtain ⟨W1, hW1⟩ : ∃ W1, W1 = (w.alloc (.cells ROW 95)).drew := ⟨_, rfl⟩
  have hg1 : W1.heap[w.heap.size]? = some (.cells ROW 95 (0, 0)) := by rw [hW1]; exact heap_alloc_new w _
  have hfr1 : Fr (OwnS (.slice (some ⟨g, 0, none⟩) n cap)) w W1 := by rw [hW1]; exact ((Fr.refl _ _).alloc _).drew
  have hfrN : Fr No w W1 := by rw [hW1]; exact ((Fr.refl _ _).alloc _).drew
  have hx1 : W1.heap[vb]? = some (.cells x.cells.toArray 95 (0, 0)) := hfrN.heap hx id
  have hgg1 : W1.heap[g]? = some (.cells cur 95 (0, 0)) := hfrN.heap hg id
  have hcpA : ∀ (W : World), W.heap = W1.heap → ∀ ty dc, (Builtin.copy_ #[53, 53] ty #[.slice (some ⟨w.heap.size, i * 6, none⟩) (n + 1 - i) dc, .slice (some ⟨vb, 0, none⟩) 1 1]).run Tryz.prog W = .ok (goInt 1) (W.setCells w.heap.size (i * 6) x.cells) := fun W hW ty dc => by
    have e : Nat.min 1 (n + 1 - i) = 1 := by simp only [Nat.min_def]; split <;> omega
    have hgW : W.heap[w.heap.size]? = some (.cells ROW 95 (0, 0)) := by rw [hW]; exact hg1
    have := run_copy_wide (P := Tryz.prog) 6 W 53 53 ty 95 w.heap.size (i * 6) (n + 1 - i) dc ⟨vb, 0, none⟩ 1 1 x.cells Tryz.underlying53 hsz (by rw [e]; rfl)
      (fun j u hj => ord_news (w := W) (by rw [hW]; exact hx1) j u (by simpa using hj)) (fun j hj => row_cells hgW _ (by omega)) (fun j _ => frozen_heap hgW _) (os_one x)
    rw [e] at this
    exact this
  have hg2 := heap_cells x.cells (i * 6) W1 ROW hg1 (by omega)
  have hfr2 : Fr No w (W1.setCells w.heap.size (i * 6) x.cells) := fr_cells (.inl (Nat.le_refl _)) _ _ _ hfrN
  obtain ⟨W2, hW2⟩ : ∃ W2, W2 = W1.setCells w.heap.size (i * 6) x.cells := ⟨_, rfl⟩
  rw [← hW2] at hg2 hfr2
  generalize hR2 : (ROW.toList.take (i * 6) ++ x.cells ++ ROW.toList.drop (i * 6 + x.cells.length)).toArray = ROW2 at hg2
  have hR2l : ROW2.size = G * 6 := by rw [← hR2]; simp; omega
  have hR20 : ROW2.toList.take ((i + 1) * 6) = ds ++ x.cells := by
    rw [← hR2, hR0]
    simp only
    exact take_row (by omega)
  have hgg2 : W2.heap[g]? = some (.cells cur 95 (0, 0)) := hfr2.heap hg id
  have hcpB : ∀ (W : World), W.heap = W2.heap → ∀ ty dc sc, (Builtin.copy_ #[53, 53] ty #[.slice (some ⟨w.heap.size, (i + 1) * 6, none⟩) (n - i) dc, .slice (some ⟨g, i * 6, none⟩) (n - i) sc]).run Tryz.prog W = .ok (goInt ((n - i : Nat) : Int)) (W.setCells w.heap.size ((i + 1) * 6) cs) := fun W hW ty dc sc => by
    have e : Nat.min (n - i) (n - i) = n - i := Nat.min_self _
    have hgW : W.heap[w.heap.size]? = some (.cells ROW2 95 (0, 0)) := by rw [hW]; exact hg2
    have hgW2 : W.heap[g]? = some (.cells cur 95 (0, 0)) := by rw [hW]; exact hgg2
    have := run_copy_wide (P := Tryz.prog) 6 W 53 53 ty 95 w.heap.size ((i + 1) * 6) (n - i) dc ⟨g, i * 6, none⟩ (n - i) sc cs Tryz.underlying53 hsz (by rw [hdl, e])
      (fun j u hj => by rw [Addr.add_lit, cell_heap hgW2, ← cell_heap hg]; exact hcell j u hj) (fun j hj => row_cells hgW _ (by rw [hdl] at hj; omega)) (fun j _ => frozen_heap hgW _) h1c
    rw [e] at this
    exact this
  have hend : Hid (InsPost w base (.slice (some ⟨g, 0, none⟩) n cap) (L.take i ++ x :: L.drop i) (.returned (.slice (some ⟨w.heap.size, 0, none⟩) (n + 1) G)) (W2.drew.setCells w.heap.size ((i + 1) * 6) cs)) := by
    have hll : (L.take i ++ x :: L.drop i).length = n + 1 := by simp; omega
    refine ⟨_, rfl, ⟨by rw [flat_len Ord.len], .inr ⟨w.heap.size, G, _, by rw [hll], hbase, heap_cells cs _ W2.drew ROW2 hg2 (by omega), by rw [hll]; omega, hGm, ?_, ?_⟩⟩, fr_cells (.inl (Nat.le_refl _)) _ _ _ (hfr2.of_no.drew), fun k hk => .inr (Nat.le_of_eq (own_eq' hk))⟩
    · simp only [List.size_toArray, List.length_append, List.length_take, List.length_drop, Array.length_toList]; omega
    · rw [hll, List.flatMap_append, List.flatMap_cons, ← hcsd, ← hdsd, hR20]
      simp only
      rw [take_row (by simp only [List.length_append]; omega), List.append_assoc]
  have hE1 : ((w.alloc (.cells ROW 95)).drew).heap = W1.heap := by rw [hW1]
  have hF1 : (((w.alloc (.cells ROW 95)).drew.setCells w.heap.size (i * 6) x.cells).drew).heap = W2.heap := by rw [hW2, hW1]; exact drew_heap _
  rw [hW2, hW1] at hend
  refine (grow_walk g n cap i vb G ROW x.cells cs w hi hnc hroom hn hGn hGm hrz (hcpA _ hE1) (hcpB _ hF1)).mono ?_
  rintro e w' ⟨rfl, rfl⟩
  exact unhide hend

theorem insert_any (base : Nat) (v : Value) (L : List Ord) (i : Nat) (x : Ord) (vb : Nat) (w : World) (hown : Os w base v L) (hi : i ≤ L.length) (hn : L.length ≤ 100000) (hbase : base ≤ w.heap.size)
    (hx : w.heap[vb]? = some (.cells x.cells.toArray 95 (0, 0))) (hvb : ¬ OwnS v vb) :
    Calls Tryz.prog 159 #[v, .int .i64 (i : Int), .slice (some ⟨vb, 0, none⟩) 1 1] w (InsPost w base v (L.take i ++ x :: L.drop i)) := by
  by_cases he : i = L.length
  · subst he
    rw [List.take_length, List.drop_length]
    exact insert_end base v L x vb w hown hn hbase hx
  · obtain ⟨a, cap, rfl, hcap, h0, hs⟩ := own_form hown
    cases a with
    | none => have := (h0 rfl).1; omega
    | some ad =>
      obtain ⟨g, rfl, _⟩ := hs ad rfl
      by_cases hr : L.length + 1 ≤ cap
      · exact insert_shift base g _ cap L i x vb w hown rfl (by omega) hr hn hx (fun e => hvb (by rw [e]; rfl))
      · exact insert_grow base g _ cap L i x vb w hown rfl (by omega) (by omega) hn hbase hx
end Go.Proofs.YtigpgnjgmaoejaaGreat
