/- Contracts of the pit's resting and restingOf. Conditions: the pit lies in memory; each order's book and side are such; no number twice. -/
import Derived.Test.YtdibeaipllmifaaGreatProgTZ
import Derived.Test.YtdibeaipllmifaaGreatLawIK
namespace Go.Proofs.YtdibeaipllmifaaGreat
open Go.RowKit

/-- The order with a number. -/
def restO (L : List Ord) (id : Int) : Option Ord := (findO L id).bind fun i => L[i]?

theorem restO_mem {L : List Ord} {id : Int} (h : (L.map Ord.id).Nodup) {x : Ord} (hx : x ∈ L) (e : x.id = id) : restO L id = some x := by
  cases hf : findO L id with
  | none => exact absurd (List.mem_map_of_mem (f := Ord.id) hx) (by rw [e]; exact findO_notin hf)
  | some i =>
    have hi := findO_lt' hf
    have h1 := findO_idx hf hi
    have h2 : L[i] = x := id_inj h (List.getElem_mem hi) hx (by rw [h1, e])
    simp [restO, hf, List.getElem?_eq_getElem hi, h2]
theorem restO_none {L : List Ord} {id : Int} (h : ∀ o ∈ L, o.id ≠ id) : restO L id = none := by
  have : findO L id = none := by
    unfold findO
    rw [List.findIdx?_eq_none_iff]
    intro o ho
    simpa using h o ho
  simp [restO, this]
theorem restO_some {L : List Ord} {id : Int} {x : Ord} (h : restO L id = some x) : x ∈ L ∧ x.id = id := by
  unfold restO at h
  cases hf : findO L id with
  | none => rw [hf] at h; cases h
  | some i =>
    rw [hf] at h
    have hi := findO_lt' hf
    simp only [Option.bind_some, List.getElem?_eq_getElem hi, Option.some.injEq] at h
    subst h
    exact ⟨List.getElem_mem hi, findO_idx hf hi⟩

theorem getO_some {L : List Ord} {k : Nat} {id : Int} {x : Ord} (h : getO (inBook L k) id = some x) : x ∈ L ∧ x.id = id ∧ x.book = (k : Int) + 1 := by
  have hm : ∀ j, j < 2 → ∀ i (hi : i < (inBook L k j).length), findO (inBook L k j) id = some i → (inBook L k j)[i] ∈ L ∧ (inBook L k j)[i].id = id ∧ (inBook L k j)[i].book = (k : Int) + 1 := fun j _ i hi hf => by
    have h1 := mem_sideOf.1 (List.getElem_mem hi)
    have h2 := h1.2
    simp only [inSide, Bool.and_eq_true, beq_iff_eq] at h2
    exact ⟨h1.1, findO_idx hf hi, h2.1⟩
  rcases findR_cases 0 (inBook L k) id with ⟨i, hi, hf, hg, _⟩ | ⟨_, i, hi, hf, hg, _⟩ | ⟨_, _, hg, _⟩
  · rw [hg] at h; cases h; exact hm 0 (by omega) i hi hf
  · rw [hg] at h; cases h; exact hm 1 (by omega) i hi hf
  · rw [hg] at h; cases h
theorem getO_none {L : List Ord} {k : Nat} {id : Int} (h : getO (inBook L k) id = none) : ∀ o ∈ L, o.book = (k : Int) + 1 → (o.side = 1 ∨ o.side = 2) → o.id ≠ id := by
  intro o ho hb hs e
  rcases findR_cases 0 (inBook L k) id with ⟨i, hi, hf, hg, _⟩ | ⟨_, i, hi, hf, hg, _⟩ | ⟨h0, h1, hg, _⟩
  · rw [hg] at h; cases h
  · rw [hg] at h; cases h
  · rcases hs with hs | hs
    · exact findO_notin h0 (e ▸ List.mem_map_of_mem (mem_sideOf.2 ⟨ho, by simp [inSide, hb, hs]⟩))
    · exact findO_notin h1 (e ▸ List.mem_map_of_mem (mem_sideOf.2 ⟨ho, by simp [inSide, hb, hs]⟩))

theorem rest_none {s : Ref} (hg : Good s) {id : Int} (h : ∀ j, j < 8 → getO (inBook s.L j) id = none) : restO s.L id = none := by
  refine restO_none fun o ho => ?_
  obtain ⟨hb, hs, _⟩ := hg.ord o ho
  obtain ⟨n, hn⟩ := Int.eq_ofNat_of_zero_le (by omega : 0 ≤ o.book - 1)
  exact getO_none (h n (by omega)) o ho (by omega) hs

theorem st6_heap {w : World} {b : Nat} {a0 a1 a2 a3 a4 a5 : Value} {T : TypeId} (h : w.heap[b]? = some (.cells #[a0, a1, a2, a3, a4, a5] T (0, 0))) (x0 x1 x2 x3 x4 x5 : Value) :
    ((((((w.setCell ⟨b, 0, none⟩ x0).setCell ⟨b, 1, none⟩ x1).setCell ⟨b, 2, none⟩ x2).setCell ⟨b, 3, none⟩ x3).setCell ⟨b, 4, none⟩ x4).setCell ⟨b, 5, none⟩ x5).heap[b]? = some (.cells #[x0, x1, x2, x3, x4, x5] T (0, 0)) := by
  rw [heap_set (heap_set (heap_set (heap_set (heap_set (heap_set h 0 x0) 1 x1) 2 x2) 3 x3) 4 x4) 5 x5]
  rfl
theorem st6_fr {S : Nat → Prop} {a w : World} {b : Nat} (h : Fr S a w) (hb : a.heap.size ≤ b ∨ S b) (x0 x1 x2 x3 x4 x5 : Value) :
    Fr S a ((((((w.setCell ⟨b, 0, none⟩ x0).setCell ⟨b, 1, none⟩ x1).setCell ⟨b, 2, none⟩ x2).setCell ⟨b, 3, none⟩ x3).setCell ⟨b, 4, none⟩ x4).setCell ⟨b, 5, none⟩ x5) :=
  (((((h.setAt b hb 0 x0).setAt b hb 1 x1).setAt b hb 2 x2).setAt b hb 3 x3).setAt b hb 4 x4).setAt b hb 5 x5

/-- The books as a value. -/
def booksV (bb : Nat → Nat) : Value := .agg #[.pointer (some ⟨bb 0, 0, none⟩), .pointer (some ⟨bb 1, 0, none⟩), .pointer (some ⟨bb 2, 0, none⟩), .pointer (some ⟨bb 3, 0, none⟩), .pointer (some ⟨bb 4, 0, none⟩), .pointer (some ⟨bb 5, 0, none⟩), .pointer (some ⟨bb 6, 0, none⟩), .pointer (some ⟨bb 7, 0, none⟩)]
theorem run_books (bb : Nat → Nat) (w : World) (k : Nat) (hk : k < 8) : (Instr.index 53 (booksV bb) (.int .i64 (k : Int))).run Tryz.prog w = .ok (.pointer (some ⟨bb k, 0, none⟩)) w := by
  have e0 : (Instr.index 53 (booksV bb) (.int .i64 ((0 : Nat) : Int))).run Tryz.prog w = .ok (.pointer (some ⟨bb 0, 0, none⟩)) w := by kernel_rfl
  have e1 : (Instr.index 53 (booksV bb) (.int .i64 ((1 : Nat) : Int))).run Tryz.prog w = .ok (.pointer (some ⟨bb 1, 0, none⟩)) w := by kernel_rfl
  have e2 : (Instr.index 53 (booksV bb) (.int .i64 ((2 : Nat) : Int))).run Tryz.prog w = .ok (.pointer (some ⟨bb 2, 0, none⟩)) w := by kernel_rfl
  have e3 : (Instr.index 53 (booksV bb) (.int .i64 ((3 : Nat) : Int))).run Tryz.prog w = .ok (.pointer (some ⟨bb 3, 0, none⟩)) w := by kernel_rfl
  have e4 : (Instr.index 53 (booksV bb) (.int .i64 ((4 : Nat) : Int))).run Tryz.prog w = .ok (.pointer (some ⟨bb 4, 0, none⟩)) w := by kernel_rfl
  have e5 : (Instr.index 53 (booksV bb) (.int .i64 ((5 : Nat) : Int))).run Tryz.prog w = .ok (.pointer (some ⟨bb 5, 0, none⟩)) w := by kernel_rfl
  have e6 : (Instr.index 53 (booksV bb) (.int .i64 ((6 : Nat) : Int))).run Tryz.prog w = .ok (.pointer (some ⟨bb 6, 0, none⟩)) w := by kernel_rfl
  have e7 : (Instr.index 53 (booksV bb) (.int .i64 ((7 : Nat) : Int))).run Tryz.prog w = .ok (.pointer (some ⟨bb 7, 0, none⟩)) w := by kernel_rfl
  match k, hk with
  | 0, _ => exact e0
  | 1, _ => exact e1
  | 2, _ => exact e2
  | 3, _ => exact e3
  | 4, _ => exact e4
  | 5, _ => exact e5
  | 6, _ => exact e6
  | 7, _ => exact e7

set_option maxHeartbeats 8000000 in
set_option maxRecDepth 20000 in
theorem pResting_any (bx : Nat) (bb : Nat → Nat) (v : Nat → Nat → Value) (ro : Nat → Nat) (s : Ref) (oid : Int) (w : World) (h : PitAt w bx bb v ro s) (hg : Good s) :
    Calls Tryz.prog 51 #[.pointer (some ⟨bx, 0, none⟩), .int .i64 oid] w fun e w' => e = .returned (ordR (restO s.L oid)) ∧ Fr No w w' := by
  have c0 := h.cellB 0 (by omega)
  have c1 := h.cellB 1 (by omega)
  have c2 := h.cellB 2 (by omega)
  have c3 := h.cellB 3 (by omega)
  have c4 := h.cellB 4 (by omega)
  have c5 := h.cellB 5 (by omega)
  have c6 := h.cellB 6 (by omega)
  have c7 := h.cellB 7 (by omega)
  have hbx : bx < w.heap.size := h.lt _ (.inl rfl)
  have HP := hide h
  have HG := hide hg
  clear h hg
  go_enter Tryz.func51, Tryz.ntmps51
  go_wp2
  go_loopw [14] (fun i wr => ∃ k : Nat, k ≤ 8 ∧ i = .int .i64 k ∧ Fr No w wr ∧ wr.heap[w.heap.size]? = some (.cells zCells.toArray 76 (0, 0)) ∧ ∀ j, j < k → getO (inBook s.L j) oid = none) (fun i _ => 8 - (intOf i).toNat)
  case atStart => exact ⟨0, by omega, rfl, (Fr.refl _ _).alloc _, heap_alloc_new w _, by omega⟩
  case round =>
    obtain ⟨k, hk, rfl, hfr, hz, hno⟩ := hrel
    by_cases hlt : k < 8
    · have hs := hfr.size
      have HF := hide (And.intro hfr hz)
      have hN := lt_of_heap hz
      obtain ⟨z0, z1, z2, z3, z4, z5, hzf⟩ := box6 hz
      have f0 := hzf 0
      have f1 := hzf 1
      have f2 := hzf 2
      have f3 := hzf 3
      have f4 := hzf 4
      have f5 := hzf 5
      have HNO := hide hno
      have hix := fun w => run_books bb w k hlt
      unfold booksV at hix
      clear hfr hz hno hzf
      go_wp2_with fail
      refine (bOrder_any (bb k) bx _ _ (v k) (inBook s.L k) oid _ (((unhide HP).book k hlt).no (unhide HF).1)).mono ?_
      rintro e w1 ⟨rfl, hf1⟩
      have hz1 := hf1.heap (unhide HF).2 id
      have hfw := (unhide HF).1.quiet hf1
      have HF1 := hide (And.intro hfw hz1)
      obtain ⟨z0', z1', z2', z3', z4', z5', hzf'⟩ := box6 hz1
      have g0 := hzf' 0
      have g1 := hzf' 1
      have g2 := hzf' 2
      have g3 := hzf' 3
      have g4 := hzf' 4
      have g5 := hzf' 5
      have hN1 := lt_of_heap hz1
      cases hgo : getO (inBook s.L k) oid with
      | none =>
        have HGO := hide hgo
        clear hgo hf1 hz1 hfw hzf'
        rw [show ordR none = .tuple #[.agg #[.int .i64 0, .int .i64 0, .int .i64 0, .int .i64 0, .int .i64 0, .int .i64 0], .bool false] from rfl]
        go_wp2
        go_roundw
        case rel => exact ⟨k + 1, by omega, by go_num, (unhide HF1).1.alloc _, Fr.heap (S := No) ((Fr.refl _ _).alloc _) (unhide HF1).2 id, fun j hj => by
          by_cases e : j = k
          · subst e; exact unhide HGO
          · exact unhide HNO j (by omega)⟩
        case measure => simp [intOf]; omega
      | some x =>
        have hr : restO s.L oid = some x := by
          obtain ⟨h1, h2, _⟩ := getO_some hgo
          exact restO_mem (unhide HG).ids h1 h2
        have HR := hide hr
        clear hgo hf1 hz1 hfw hzf' hr
        rw [show ordR (some x) = .tuple #[.agg #[.int .i64 x.id, .int .i64 x.trader, .int .i64 x.book, .int .i64 x.side, .int .i64 x.price, .int .i64 x.opn], .bool true] from rfl]
        go_wp2
        have hWb := st6_heap (unhide HF1).2 (.int .i64 x.id) (.int .i64 x.trader) (.int .i64 x.book) (.int .i64 x.side) (.int .i64 x.price) (.int .i64 x.opn)
        have hWf := st6_fr (unhide HF1).1 (.inl (Nat.le_refl w.heap.size)) (.int .i64 x.id) (.int .i64 x.trader) (.int .i64 x.book) (.int .i64 x.side) (.int .i64 x.price) (.int .i64 x.opn)
        generalize World.setCell (World.setCell (World.setCell (World.setCell (World.setCell (World.setCell _ ⟨w.heap.size, 0, none⟩ _) ⟨w.heap.size, 1, none⟩ _) ⟨w.heap.size, 2, none⟩ _) ⟨w.heap.size, 3, none⟩ _) ⟨w.heap.size, 4, none⟩ _) ⟨w.heap.size, 5, none⟩ _ = W at hWb hWf ⊢
        have hWb2 := Fr.heap ((Fr.refl No W).alloc (.cells #[.int .i64 x.id, .int .i64 x.trader, .int .i64 x.book, .int .i64 x.side, .int .i64 x.price, .int .i64 x.opn] 76)) hWb id
        have hWf2 := hWf.alloc (.cells #[.int .i64 x.id, .int .i64 x.trader, .int .i64 x.book, .int .i64 x.side, .int .i64 x.price, .int .i64 x.opn] 76)
        generalize World.alloc W _ = W2 at hWb2 hWf2 ⊢
        obtain ⟨q0, q1, q2, q3, q4, q5, _⟩ := box6 hWb2
        rw [unhide HR]
        exact bodyPost_ret (v := .tuple #[x.val, .bool true]) (by simp [results, Tryz.results51, go_sem, Ord.val, q0, q1, q2, q3, q4, q5]) rfl ⟨rfl, hWf2⟩
    · have hr : restO s.L oid = none := rest_none (unhide HG) (fun j hj => hno j (Nat.lt_of_lt_of_le hj (Nat.le_of_not_lt hlt)))
      have HR := hide hr
      have HF := hide (And.intro hfr hz)
      obtain ⟨z0, z1, z2, z3, z4, z5, hzf⟩ := box6 hz
      have f0 := hzf 0
      have f1 := hzf 1
      have f2 := hzf 2
      have f3 := hzf 3
      have f4 := hzf 4
      have f5 := hzf 5
      clear hfr hz hno hr hzf
      go_wp2
      have hWb := st6_heap (unhide HF).2 (.int .i64 0) (.int .i64 0) (.int .i64 0) (.int .i64 0) (.int .i64 0) (.int .i64 0)
      have hWf := st6_fr (unhide HF).1 (.inl (Nat.le_refl w.heap.size)) (.int .i64 0) (.int .i64 0) (.int .i64 0) (.int .i64 0) (.int .i64 0) (.int .i64 0)
      generalize World.setCell (World.setCell (World.setCell (World.setCell (World.setCell (World.setCell _ ⟨w.heap.size, 0, none⟩ _) ⟨w.heap.size, 1, none⟩ _) ⟨w.heap.size, 2, none⟩ _) ⟨w.heap.size, 3, none⟩ _) ⟨w.heap.size, 4, none⟩ _) ⟨w.heap.size, 5, none⟩ _ = W at hWb hWf ⊢
      obtain ⟨q0, q1, q2, q3, q4, q5, _⟩ := box6 hWb
      rw [unhide HR]
      exact bodyPost_ret (v := .tuple #[zOrd, .bool false]) (by simp [results, Tryz.results51, go_sem, zOrd, q0, q1, q2, q3, q4, q5]) rfl ⟨rfl, hWf⟩
end Go.Proofs.YtdibeaipllmifaaGreat

/- Contracts of the pit's restingOf and Order. Conditions: the pit lies in memory and is good. -/
namespace Go.Proofs.YtdibeaipllmifaaGreat
open Go.RowKit

def ofT (t : Int) : Option Ord → Option Ord
  | some x => if x.trader = t then some x else none
  | none => none

set_option maxHeartbeats 8000000 in
set_option maxRecDepth 20000 in
theorem pRestingOf_any (bx : Nat) (bb : Nat → Nat) (v : Nat → Nat → Value) (ro : Nat → Nat) (s : Ref) (t oid : Int) (w : World) (h : PitAt w bx bb v ro s) (hg : Good s) :
    Calls Tryz.prog 57 #[.pointer (some ⟨bx, 0, none⟩), .int .i64 t, .int .i64 oid] w fun e w' => e = .returned (ordR (ofT t (restO s.L oid))) ∧ Fr No w w' := by
  have HP := hide h
  have HG := hide hg
  clear h hg
  go_enter Tryz.func57, Tryz.ntmps57
  go_wp2_with fail
  have hz0 : (w.alloc (.cells #[.int .i64 0, .int .i64 0, .int .i64 0, .int .i64 0, .int .i64 0, .int .i64 0] 76)).heap[w.heap.size]? = some (.cells #[.int .i64 0, .int .i64 0, .int .i64 0, .int .i64 0, .int .i64 0, .int .i64 0] 76 (0, 0)) := heap_alloc_new w _
  refine (pResting_any bx bb v ro s oid _ ((unhide HP).no ((Fr.refl _ _).alloc _)) (unhide HG)).mono ?_
  rintro e w1 ⟨rfl, hf1⟩
  have hz1 := hf1.heap hz0 id
  have hfw := ((Fr.refl No w).alloc _).quiet hf1
  have HF1 := hide (And.intro hfw hz1)
  obtain ⟨z0, z1, z2, z3, z4, z5, hzf⟩ := box6 hz1
  have g0 := hzf 0
  have g1 := hzf 1
  have g2 := hzf 2
  have g3 := hzf 3
  have g4 := hzf 4
  have g5 := hzf 5
  have hN1 := lt_of_heap hz1
  clear hz0 hf1 hz1 hfw hzf
  cases hro : restO s.L oid with
  | none =>
    have HR : Hid (ofT t (restO s.L oid) = none) := by show _ = _; rw [hro]; rfl
    clear hro
    rw [show ordR none = .tuple #[.agg #[.int .i64 0, .int .i64 0, .int .i64 0, .int .i64 0, .int .i64 0, .int .i64 0], .bool false] from rfl]
    go_wp2
    have hWb := st6_heap (unhide HF1).2 (.int .i64 0) (.int .i64 0) (.int .i64 0) (.int .i64 0) (.int .i64 0) (.int .i64 0)
    have hWf := st6_fr (unhide HF1).1 (.inl (Nat.le_refl w.heap.size)) (.int .i64 0) (.int .i64 0) (.int .i64 0) (.int .i64 0) (.int .i64 0) (.int .i64 0)
    generalize World.setCell (World.setCell (World.setCell (World.setCell (World.setCell (World.setCell _ ⟨w.heap.size, 0, none⟩ _) ⟨w.heap.size, 1, none⟩ _) ⟨w.heap.size, 2, none⟩ _) ⟨w.heap.size, 3, none⟩ _) ⟨w.heap.size, 4, none⟩ _) ⟨w.heap.size, 5, none⟩ _ = W at hWb hWf ⊢
    have hWb2 := Fr.heap ((Fr.refl No W).alloc (.cells #[.int .i64 0, .int .i64 0, .int .i64 0, .int .i64 0, .int .i64 0, .int .i64 0] 76)) hWb id
    have hWf2 := hWf.alloc (.cells #[.int .i64 0, .int .i64 0, .int .i64 0, .int .i64 0, .int .i64 0, .int .i64 0] 76)
    generalize World.alloc W _ = W2 at hWb2 hWf2 ⊢
    obtain ⟨q0, q1, q2, q3, q4, q5, _⟩ := box6 hWb2
    rw [unhide HR]
    exact bodyPost_ret (v := .tuple #[zOrd, .bool false]) (by simp [results, Tryz.results57, go_sem, zOrd, q0, q1, q2, q3, q4, q5]) rfl ⟨rfl, hWf2⟩
  | some x =>
    by_cases ht : x.trader = t
    · have HR : Hid (ofT t (restO s.L oid) = some x) := by show _ = _; rw [hro]; simp [ofT, ht]
      have hb : (x.trader != t) = false := by simpa using ht
      clear hro ht
      rw [show ordR (some x) = .tuple #[.agg #[.int .i64 x.id, .int .i64 x.trader, .int .i64 x.book, .int .i64 x.side, .int .i64 x.price, .int .i64 x.opn], .bool true] from rfl]
      go_wp2
      have hWb := st6_heap (unhide HF1).2 (.int .i64 x.id) (.int .i64 x.trader) (.int .i64 x.book) (.int .i64 x.side) (.int .i64 x.price) (.int .i64 x.opn)
      have hWf := st6_fr (unhide HF1).1 (.inl (Nat.le_refl w.heap.size)) (.int .i64 x.id) (.int .i64 x.trader) (.int .i64 x.book) (.int .i64 x.side) (.int .i64 x.price) (.int .i64 x.opn)
      generalize World.setCell (World.setCell (World.setCell (World.setCell (World.setCell (World.setCell _ ⟨w.heap.size, 0, none⟩ _) ⟨w.heap.size, 1, none⟩ _) ⟨w.heap.size, 2, none⟩ _) ⟨w.heap.size, 3, none⟩ _) ⟨w.heap.size, 4, none⟩ _) ⟨w.heap.size, 5, none⟩ _ = W at hWb hWf ⊢
      have hWb2 := Fr.heap ((Fr.refl No W).alloc (.cells #[.int .i64 x.id, .int .i64 x.trader, .int .i64 x.book, .int .i64 x.side, .int .i64 x.price, .int .i64 x.opn] 76)) hWb id
      have hWf2 := hWf.alloc (.cells #[.int .i64 x.id, .int .i64 x.trader, .int .i64 x.book, .int .i64 x.side, .int .i64 x.price, .int .i64 x.opn] 76)
      generalize World.alloc W _ = W2 at hWb2 hWf2 ⊢
      obtain ⟨q0, q1, q2, q3, q4, q5, _⟩ := box6 hWb2
      rw [unhide HR]
      exact bodyPost_ret (v := .tuple #[x.val, .bool true]) (by simp [results, Tryz.results57, go_sem, Ord.val, q0, q1, q2, q3, q4, q5]) rfl ⟨rfl, hWf2⟩
    · have HR : Hid (ofT t (restO s.L oid) = none) := by show _ = _; rw [hro]; simp [ofT, ht]
      have hb : (x.trader != t) = true := by simpa using ht
      clear hro ht
      rw [show ordR (some x) = .tuple #[.agg #[.int .i64 x.id, .int .i64 x.trader, .int .i64 x.book, .int .i64 x.side, .int .i64 x.price, .int .i64 x.opn], .bool true] from rfl]
      go_wp2
      have hWb := st6_heap (unhide HF1).2 (.int .i64 0) (.int .i64 0) (.int .i64 0) (.int .i64 0) (.int .i64 0) (.int .i64 0)
      have hWf := st6_fr (unhide HF1).1 (.inl (Nat.le_refl w.heap.size)) (.int .i64 0) (.int .i64 0) (.int .i64 0) (.int .i64 0) (.int .i64 0) (.int .i64 0)
      generalize World.setCell (World.setCell (World.setCell (World.setCell (World.setCell (World.setCell _ ⟨w.heap.size, 0, none⟩ _) ⟨w.heap.size, 1, none⟩ _) ⟨w.heap.size, 2, none⟩ _) ⟨w.heap.size, 3, none⟩ _) ⟨w.heap.size, 4, none⟩ _) ⟨w.heap.size, 5, none⟩ _ = W at hWb hWf ⊢
      have hWb2 := Fr.heap ((Fr.refl No W).alloc (.cells #[.int .i64 x.id, .int .i64 x.trader, .int .i64 x.book, .int .i64 x.side, .int .i64 x.price, .int .i64 x.opn] 76)) hWb id
      have hWf2 := hWf.alloc (.cells #[.int .i64 x.id, .int .i64 x.trader, .int .i64 x.book, .int .i64 x.side, .int .i64 x.price, .int .i64 x.opn] 76)
      generalize World.alloc W _ = W2 at hWb2 hWf2 ⊢
      obtain ⟨q0, q1, q2, q3, q4, q5, _⟩ := box6 hWb2
      rw [unhide HR]
      exact bodyPost_ret (v := .tuple #[zOrd, .bool false]) (by simp [results, Tryz.results57, go_sem, zOrd, q0, q1, q2, q3, q4, q5]) rfl ⟨rfl, hWf2⟩

theorem orderR_rest (L : List Ord) (id : Int) : orderR L id = match restO L id with
    | some x => .tuple #[x.val, .int .i64 0]
    | none => .tuple #[zOrd, .int .i64 4] := by
  unfold orderR restO
  cases hf : findO L id with
  | none => rfl
  | some i =>
    have hi := findO_lt' hf
    simp [List.getElem?_eq_getElem hi]

set_option maxHeartbeats 8000000 in
set_option maxRecDepth 20000 in
theorem pOrder_any (bx : Nat) (bb : Nat → Nat) (v : Nat → Nat → Value) (ro : Nat → Nat) (s : Ref) (oid : Int) (w : World) (h : PitAt w bx bb v ro s) (hg : Good s) :
    Calls Tryz.prog 40 #[.pointer (some ⟨bx, 0, none⟩), .int .i64 oid] w fun e w' => e = .returned (orderR s.L oid) ∧ Fr No w w' := by
  have HP := hide h
  have HG := hide hg
  clear h hg
  go_enter Tryz.func40, Tryz.ntmps40
  go_wp2_with (go_at_call 11; refine (ready_any bx bb v ro s _ ((unhide HP).no ((Fr.refl _ _).alloc _))).mono ?_; rintro e w0 ⟨rfl, rfl⟩)
  have hz0 : (w.alloc (.cells #[.int .i64 0, .int .i64 0, .int .i64 0, .int .i64 0, .int .i64 0, .int .i64 0] 76)).heap[w.heap.size]? = some (.cells #[.int .i64 0, .int .i64 0, .int .i64 0, .int .i64 0, .int .i64 0, .int .i64 0] 76 (0, 0)) := heap_alloc_new w _
  refine (pResting_any bx bb v ro s oid _ ((unhide HP).no ((Fr.refl _ _).alloc _)) (unhide HG)).mono ?_
  rintro e w1 ⟨rfl, hf1⟩
  have hz1 := hf1.heap hz0 id
  have hfw := ((Fr.refl No w).alloc _).quiet hf1
  have HF1 := hide (And.intro hfw hz1)
  obtain ⟨z0, z1, z2, z3, z4, z5, hzf⟩ := box6 hz1
  have g0 := hzf 0
  have g1 := hzf 1
  have g2 := hzf 2
  have g3 := hzf 3
  have g4 := hzf 4
  have g5 := hzf 5
  have hN1 := lt_of_heap hz1
  clear hz0 hf1 hz1 hfw hzf
  cases hro : restO s.L oid with
  | none =>
    have HR : Hid (orderR s.L oid = .tuple #[zOrd, .int .i64 4]) := by show _ = _; rw [orderR_rest, hro]
    clear hro
    rw [show ordR none = .tuple #[.agg #[.int .i64 0, .int .i64 0, .int .i64 0, .int .i64 0, .int .i64 0, .int .i64 0], .bool false] from rfl]
    go_wp2
    have hWb := st6_heap (unhide HF1).2 (.int .i64 0) (.int .i64 0) (.int .i64 0) (.int .i64 0) (.int .i64 0) (.int .i64 0)
    have hWf := st6_fr (unhide HF1).1 (.inl (Nat.le_refl w.heap.size)) (.int .i64 0) (.int .i64 0) (.int .i64 0) (.int .i64 0) (.int .i64 0) (.int .i64 0)
    generalize World.setCell (World.setCell (World.setCell (World.setCell (World.setCell (World.setCell _ ⟨w.heap.size, 0, none⟩ _) ⟨w.heap.size, 1, none⟩ _) ⟨w.heap.size, 2, none⟩ _) ⟨w.heap.size, 3, none⟩ _) ⟨w.heap.size, 4, none⟩ _) ⟨w.heap.size, 5, none⟩ _ = W at hWb hWf ⊢
    have hWb2 := Fr.heap ((Fr.refl No W).alloc (.cells #[.int .i64 0, .int .i64 0, .int .i64 0, .int .i64 0, .int .i64 0, .int .i64 0] 76)) hWb id
    have hWf2 := hWf.alloc (.cells #[.int .i64 0, .int .i64 0, .int .i64 0, .int .i64 0, .int .i64 0, .int .i64 0] 76)
    generalize World.alloc W _ = W2 at hWb2 hWf2 ⊢
    obtain ⟨q0, q1, q2, q3, q4, q5, _⟩ := box6 hWb2
    rw [unhide HR]
    exact bodyPost_ret (v := .tuple #[zOrd, .int .i64 4]) (by simp [results, Tryz.results40, go_sem, zOrd, q0, q1, q2, q3, q4, q5]) rfl ⟨rfl, hWf2⟩
  | some x =>
    have HR : Hid (orderR s.L oid = .tuple #[x.val, .int .i64 0]) := by show _ = _; rw [orderR_rest, hro]
    clear hro
    rw [show ordR (some x) = .tuple #[.agg #[.int .i64 x.id, .int .i64 x.trader, .int .i64 x.book, .int .i64 x.side, .int .i64 x.price, .int .i64 x.opn], .bool true] from rfl]
    go_wp2
    have hWb := st6_heap (unhide HF1).2 (.int .i64 x.id) (.int .i64 x.trader) (.int .i64 x.book) (.int .i64 x.side) (.int .i64 x.price) (.int .i64 x.opn)
    have hWf := st6_fr (unhide HF1).1 (.inl (Nat.le_refl w.heap.size)) (.int .i64 x.id) (.int .i64 x.trader) (.int .i64 x.book) (.int .i64 x.side) (.int .i64 x.price) (.int .i64 x.opn)
    generalize World.setCell (World.setCell (World.setCell (World.setCell (World.setCell (World.setCell _ ⟨w.heap.size, 0, none⟩ _) ⟨w.heap.size, 1, none⟩ _) ⟨w.heap.size, 2, none⟩ _) ⟨w.heap.size, 3, none⟩ _) ⟨w.heap.size, 4, none⟩ _) ⟨w.heap.size, 5, none⟩ _ = W at hWb hWf ⊢
    have hWb2 := Fr.heap ((Fr.refl No W).alloc (.cells #[.int .i64 x.id, .int .i64 x.trader, .int .i64 x.book, .int .i64 x.side, .int .i64 x.price, .int .i64 x.opn] 76)) hWb id
    have hWf2 := hWf.alloc (.cells #[.int .i64 x.id, .int .i64 x.trader, .int .i64 x.book, .int .i64 x.side, .int .i64 x.price, .int .i64 x.opn] 76)
    generalize World.alloc W _ = W2 at hWb2 hWf2 ⊢
    obtain ⟨q0, q1, q2, q3, q4, q5, _⟩ := box6 hWb2
    rw [unhide HR]
    exact bodyPost_ret (v := .tuple #[x.val, .int .i64 0]) (by simp [results, Tryz.results40, go_sem, Ord.val, q0, q1, q2, q3, q4, q5]) rfl ⟨rfl, hWf2⟩
end Go.Proofs.YtdibeaipllmifaaGreat
