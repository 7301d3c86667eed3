/- Contracts of the document's drop, gone, refused and crosses. Conditions: the pit lies in memory, and fewer than 100001 orders rest. -/
import Derived.Test.YtigpgnjgmaoejaaGreatLay
import Derived.Test.YtigpgnjgmaoejaaGreatRefAB
namespace Go.Proofs.YtigpgnjgmaoejaaGreat
open Go.RowKit

theorem erase_step {L : List Ord} {i k : Nat} (hk : k < L.length) :
    (L.take (k + 1)).eraseIdx i = if k = i then (L.take k).eraseIdx i else (L.take k).eraseIdx i ++ [L[k]] := by
  rw [List.take_succ_eq_append_getElem hk, List.eraseIdx_append]
  have hl : (L.take k).length = k := by simp; omega
  rw [hl]
  by_cases h1 : k = i
  · subst h1
    rw [if_neg (by omega), if_pos rfl, List.eraseIdx_of_length_le (l := List.take k L) (by omega)]
    simp
  · rw [if_neg h1]
    split
    · rfl
    · rw [List.eraseIdx_of_length_le (l := List.take k L) (by omega)]
      obtain ⟨m, hm⟩ : ∃ m, i - k = m + 1 := ⟨i - k - 1, by omega⟩
      rw [hm]; simp

set_option maxHeartbeats 1000000 in
theorem drop_any (bp : Nat) (v : Value) (s : Ref) (i : Nat) (w : World) (hr : RefAt w bp v s) (hn : s.L.length ≤ 100000) :
    Calls Tryz.prog 118 #[.pointer (some ⟨bp, 0, none⟩), .int .i64 (i : Int)] w fun e w' => e = .returned (.tuple #[]) ∧
      ∃ v', RefAt w' bp v' { s with L := s.L.eraseIdx i } ∧ Fr (Is bp) w w' ∧ ∀ g, v'.ownBlock = some g → w.heap.size ≤ g := by
  obtain ⟨a, cap, rfl⟩ := hr.form
  have HR := hide hr
  have hL := hr.cellL
  clear hr
  generalize hnn : s.L.length = n at *
  have Hn := hide hnn
  clear hnn
  go_enter Tryz.func118, Tryz.ntmps118
  go_wp2
  go_loopw [4, 5] (fun l c wr => ∃ k : Nat, k ≤ n ∧ c = .int .i64 k ∧ Os wr w.heap.size l ((s.L.take k).eraseIdx i) ∧ Fr No w wr) (fun _ c _ => n - (intOf c).toNat)
  case atStart => exact ⟨0, Nat.zero_le _, rfl, World.ownsRow_nil _ _ _ _, Fr.refl _ _⟩
  case round =>
    obtain ⟨k, hk, rfl, hown, hfr⟩ := hrel
    have hr2 := (unhide HR).no hfr
    have hL2 := hr2.cellL
    have hbp := hr2.lt
    have hfz := hr2.frozen 0
    have HF := hide hfr
    have hsz := hfr.size
    clear hfr hL
    by_cases hlt : k < n
    · have hlt' : k < s.L.length := by rw [unhide Hn]; exact hlt
      obtain ⟨g, rfl, hg, _, hc0, hc1, hc2, hc3, hc4, hc5, _⟩ := os_at hr2.own k hlt'
      have HS := hide (erase_step (i := i) hlt')
      clear hr2
      by_cases hki : k = i
      · have hkb : ((k : Int) != i) = false := by simp [hki]
        have HKI := hide hki
        clear hki
        go_wp2
        go_roundw
        case rel => exact ⟨k + 1, by omega, by go_num, by rw [unhide HS, if_pos (unhide HKI)]; exact hown, unhide HF⟩
        case measure => simp [intOf]; omega
      · have hkb : ((k : Int) != i) = true := by simp; omega
        have HKI := hide hki
        clear hki
        have hlen : ((s.L.take k).eraseIdx i).length ≤ 100000 := by
          have h1 := List.length_eraseIdx_le (s.L.take k) i
          have h2 : (s.L.take k).length ≤ k := List.length_take_le _ _
          omega
        generalize hL0 : (s.L.take k).eraseIdx i = L0 at *
        have HL0 := hide hL0
        clear hL0
        go_wp2_with (at_builtin; refine app_ord rfl (.tmp 18) (.tmp 26) rfl w.heap.size _ L0 (own_fr (S := No) hown ((Fr.refl _ _).alloc _) (fun _ _ => id)) rfl ⟨wr.heap.size, 0, none⟩ 1 1 [s.L[k]] rfl rfl (by simp) (new_cells _ s.L[k].cells _) (by simp; omega) (by simp; omega) ?_; intro g1 c1 w1 hown1 hfr1 hat1 hlt1)
        go_roundw
        case rel =>
          refine ⟨k + 1, by omega, by go_num, by rw [unhide HS, if_neg (unhide HKI)]; exact hown1, ((unhide HF).alloc _).trans hfr1 fun j hj ht => absurd (hown.lt j ht).1 (by omega)⟩
        case measure => simp [intOf]; omega
    · have hkn : k = n := by omega
      have h1 : s.L.take k = s.L := List.take_of_length_le (by have := unhide Hn; omega)
      rw [h1] at hown
      have HKN := hide hkn
      have hlt1 : ∀ g, u4.ownBlock = some g → w.heap.size ≤ g := fun g hg => (hown.lt g hg).1
      obtain ⟨a1, c1, rfl, _⟩ := own_form hown
      clear h1 hkn
      have HO := hide hown
      have HL := hide hlt1
      have HR2 := hide hr2
      clear hown hlt1 hr2
      go_wp2
      go_end0
      exact ⟨rfl, _, (unhide HR2).store (unhide HO) (fun g hg => by have := unhide HL g hg; have := (unhide HR).lt; omega), (Fr.of_no (S := Is bp) (unhide HF)).setAt bp (.inr (Is.self bp)) 0 _, unhide HL⟩

def goneE (id n : Int) : Ev := ⟨5, id, 0, 0, n, 0⟩
def refusedE (id e : Int) : Ev := ⟨1, id, 0, 0, 0, e⟩

set_option maxHeartbeats 400000 in
theorem gone_any (id n : Int) (w : World) :
    Calls Tryz.prog 119 #[.int .i64 id, .int .i64 n] w fun e w' => e = .returned (goneE id n).val ∧ Fr No w w' := by
  go_enter Tryz.func119, Tryz.ntmps119
  go_wp2
  exact bodyPost_ret (v := (goneE id n).val) (by simp [results, Tryz.results119, go_sem, goneE, Ev.val]) rfl ⟨rfl, (Fr.refl _ _).alloc _⟩

theorem es_new (w : World) (x : Ev) (T : TypeId) (hT : T = 42) (base : Nat) (hb : base ≤ w.heap.size) : Es (w.alloc (.cells x.cells.toArray T)) base (.slice (some ⟨w.heap.size, 0, none⟩) 1 1) [x] := by
  subst hT
  exact ⟨by simp [Ev.len], .inr ⟨w.heap.size, 1, _, rfl, hb, heap_alloc_new w _, Nat.le_refl _, by decide, by simp [Ev.len], by simp [Ev.cells]⟩⟩

set_option maxHeartbeats 400000 in
theorem refused_any (id n : Int) (w : World) :
    Calls Tryz.prog 60 #[.int .i64 id, .int .i64 n] w fun e w' => ∃ v, e = .returned v ∧ Es w' w.heap.size v [refusedE id n] ∧ Fr No w w' := by
  go_enter Tryz.func60, Tryz.ntmps60
  go_wp2
  go_ret
  exact ⟨_, rfl, es_new w (refusedE id n) _ rfl _ (Nat.le_refl _), (Fr.refl _ _).alloc _⟩
end Go.Proofs.YtigpgnjgmaoejaaGreat

/- Contract of the document's crosses. Conditions: the pit lies in memory, fewer than 100001 orders rest, the order's side is 1 or 2. -/
namespace Go.Proofs.YtigpgnjgmaoejaaGreat
open Go.RowKit

def crossB (L : List Ord) (x : Ord) : Bool :=
  match bestO L x.book (3 - x.side) with
  | none => false
  | some j => goodB x.side (priceAt L j) x.price

theorem bestO_lt {L : List Ord} {b s : Int} {j : Nat} (h : bestO L b s = some j) : j < L.length := (bestTo_lt h).2

set_option maxHeartbeats 1000000 in
theorem crosses_any (bp : Nat) (v : Value) (s : Ref) (x : Ord) (w : World) (hr : RefAt w bp v s) (hn : s.L.length ≤ 100000) (h1 : 1 ≤ x.side) (h2 : x.side ≤ 2) :
    Calls Tryz.prog 114 #[.pointer (some ⟨bp, 0, none⟩), x.val] w fun e w' => e = .returned (.bool (crossB s.L x)) ∧ Fr No w w' := by
  unfold Ord.val
  go_enter Tryz.func114, Tryz.ntmps114
  have HR := hide hr
  have hbp := hr.lt
  clear hr
  go_wp2_with (go_at_call 122; refine (best_any bp v s _ _ _ ((unhide HR).no ((Fr.refl _ _).alloc _)) hn).mono ?_; rintro e w1 ⟨rfl, hf1⟩)
  have hr1 : RefAt w1 bp v s := (unhide HR).no (((Fr.refl _ _).alloc _).quiet hf1)
  obtain ⟨a, cap, rfl⟩ := hr1.form
  have hL := hr1.cellL
  have hlt1 := hr1.lt
  have hx0 := hf1.heap (heap_alloc_new w _) id
  have hx3 := cell_heap hx0 3
  have hx4 := cell_heap hx0 4
  simp at hx3 hx4
  have HF : Hid (Fr No w w1) := ((Fr.refl _ _).alloc _).quiet hf1
  clear hf1 hx0
  cases hb : bestO s.L x.book (3 - x.side) with
  | none =>
    have HC : Hid (crossB s.L x = false) := by show _ = _; simp [crossB, hb]
    rw [show enc none = -1 from rfl]
    clear hb hr1
    go_wp2
    go_quiet (fail)
    go_wp2
    go_ret
    exact ⟨retB (by rw [unhide HC]), (unhide HF).drewN _⟩
  | some j =>
    have hj := bestO_lt hb
    have HC : Hid (crossB s.L x = goodB x.side (priceAt s.L j) x.price) := by show _ = _; simp [crossB, hb]
    obtain ⟨g, rfl, hg, _, _, _, _, _, hc4, _, _⟩ := os_at hr1.own j hj
    rw [← priceAt_eq hj] at hc4
    have hj0 : (0 : Int) ≤ (j : Int) := by omega
    have hjn : (j : Int) < s.L.length := by omega
    rw [show enc (some j) = (j : Int) from rfl]
    clear hb hr1
    generalize priceAt s.L j = pj at *
    go_wp2
    go_quiet ((go_at_call 149; exact Calls.quiet_of_same (good_any _ _ _ _)))
    go_wp2
    go_ret
    exact ⟨retB (by rw [unhide HC]), (unhide HF).drewN _⟩
end Go.Proofs.YtigpgnjgmaoejaaGreat
