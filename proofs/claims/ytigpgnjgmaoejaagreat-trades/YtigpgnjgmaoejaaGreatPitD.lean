/- Contracts of a new book and of a new pit. No condition. -/
import Derived.Test.YtigpgnjgmaoejaaGreatPitAB
import Derived.Test.YtigpgnjgmaoejaaGreatLay
import Derived.Test.YtigpgnjgmaoejaaGreatMarts
import Derived.Deep.RegionHeld3
namespace Go.Proofs.YtigpgnjgmaoejaaGreat
open Go.RowKit

set_option maxHeartbeats 2000000 in
theorem bNew_any (bx : Nat) (w : World) : Calls Tryz.prog 39 #[.pointer (some ⟨bx, 8, none⟩)] w fun e w' =>
    e = .returned (.pointer (some ⟨w.heap.size, 0, none⟩)) ∧ PB w' w.heap.size bx false 0 (fun _ => .slice none 0 0) (fun _ => []) ∧ Fr No w w' ∧ w'.heap.size = w.heap.size + 1 := by
  have hrow : ∀ c : Array Value, (w.alloc (.cells c 132)).heap[w.heap.size]? = some (.cells c 132 (0, 0)) := fun c => heap_alloc_new w _
  have hset : ∀ (c : Array Value) (k : Nat) (u : Value), (w.alloc (.cells c 132)).setCell ⟨w.heap.size, k, none⟩ u = w.alloc (.cells (c.setIfInBounds k u) 132) := fun c k u => World.setCell_alloc_at c _ w.heap.size k u rfl
  have hst1 : (store ⟨w.heap.size, 4, none⟩ (beatsV 1 w.heap.size 3)).run Tryz.prog (w.alloc (.cells #[.int .i64 1, .int .i64 0, .pointer (some ⟨bx, 8, none⟩), .slice none 0 0, .nilFunc, .slice none 0 0, .nilFunc] 132)) = .ok () (w.alloc (.cells #[.int .i64 1, .int .i64 0, .pointer (some ⟨bx, 8, none⟩), .slice none 0 0, beatsV 1 w.heap.size 3, .slice none 0 0, .nilFunc] 132)) := by
    rw [run_store Tryz.prog _ _ _ _ rfl, cell_heap (hrow _), frozen_heap (hrow _), hset]
    simp
  have hst2 : (store ⟨w.heap.size, 6, none⟩ (beatsV 2 w.heap.size 5)).run Tryz.prog (w.alloc (.cells #[.int .i64 1, .int .i64 0, .pointer (some ⟨bx, 8, none⟩), .slice none 0 0, beatsV 1 w.heap.size 3, .slice none 0 0, .nilFunc] 132)) = .ok () (w.alloc (.cells #[.int .i64 1, .int .i64 0, .pointer (some ⟨bx, 8, none⟩), .slice none 0 0, beatsV 1 w.heap.size 3, .slice none 0 0, beatsV 2 w.heap.size 5] 132)) := by
    rw [run_store Tryz.prog _ _ _ _ rfl, cell_heap (hrow _), frozen_heap (hrow _), hset]
    simp
  rw [show beatsV 1 w.heap.size 3 = .func (.func 70) #[.pointer (some ⟨w.heap.size, 3, none⟩)] #[] from rfl] at hst1 hst2
  rw [show beatsV 2 w.heap.size 5 = .func (.func 71) #[.pointer (some ⟨w.heap.size, 5, none⟩)] #[] from rfl] at hst2
  clear hset hrow
  have hmf : ∀ (fn : Fn) (first cap : Array Value) (w : World), (Instr.makeFunc fn first cap).run Tryz.prog w = .ok (.func fn first cap) w := fun _ _ _ _ => rfl
  go_enter Tryz.func39, Tryz.ntmps39
  go_wp2_with (go_at_call 55; refine (bSide_any _ _ (by first | exact .inl rfl | exact .inr rfl) _).mono ?_; rintro e w2 ⟨rfl, rfl⟩; first | rw [show sAt 1 = 3 from rfl] | rw [show sAt 2 = 5 from rfl])
  go_ret
  exact ⟨rfl, ⟨heap_alloc_new w _, fun j _ => World.ownsRow_nil _ _ _ _, fun j _ => by simp, fun j _ e => by simp [OwnS, Value.ownBlock] at e, fun g e => by simp [OwnS, Value.ownBlock] at e⟩, (Fr.refl _ _).alloc _, by simp⟩
def pPart (N k : Nat) : Array Value :=
  #[if 0 < k then .pointer (some ⟨N + 0, 0, none⟩) else .pointer none, if 1 < k then .pointer (some ⟨N + 1, 0, none⟩) else .pointer none, if 2 < k then .pointer (some ⟨N + 2, 0, none⟩) else .pointer none, if 3 < k then .pointer (some ⟨N + 3, 0, none⟩) else .pointer none,
    if 4 < k then .pointer (some ⟨N + 4, 0, none⟩) else .pointer none, if 5 < k then .pointer (some ⟨N + 5, 0, none⟩) else .pointer none, if 6 < k then .pointer (some ⟨N + 6, 0, none⟩) else .pointer none, if 7 < k then .pointer (some ⟨N + 7, 0, none⟩) else .pointer none, .int .i64 0]
theorem pPart_get (N : Nat) : ∀ k, k < 8 → (pPart N k)[k]? = some (.pointer none)
  | 0, _ | 1, _ | 2, _ | 3, _ | 4, _ | 5, _ | 6, _ | 7, _ => rfl
theorem pPart_set (N : Nat) : ∀ k, k < 8 → (pPart N k).setIfInBounds k (.pointer (some ⟨N + k, 0, none⟩)) = pPart N (k + 1)
  | 0, _ | 1, _ | 2, _ | 3, _ | 4, _ | 5, _ | 6, _ | 7, _ => rfl

structure NewMid (w wr : World) (bx k : Nat) : Prop where
  blk : wr.heap[bx]? = some (.cells (pPart w.heap.size k) 83 (0, 0))
  size : wr.heap.size = w.heap.size + k
  book : ∀ i, i < k → PB wr (w.heap.size + i) bx false 0 (fun _ => .slice none 0 0) (fun _ => [])
  fr : Fr (Is bx) w wr
  lt : bx < w.heap.size

theorem NewMid.next {w wr w1 : World} {bx k : Nat} (h : NewMid w wr bx k) (hk : k < 8) (hp : PB w1 wr.heap.size bx false 0 (fun _ => .slice none 0 0) (fun _ => [])) (hf : Fr No wr w1) (hs : w1.heap.size = wr.heap.size + 1) :
    NewMid w (w1.setCell ⟨bx, k, none⟩ (.pointer (some ⟨wr.heap.size, 0, none⟩))) bx (k + 1) := by
  have hf2 : Fr (Is bx) w1 (w1.setCell ⟨bx, k, none⟩ (.pointer (some ⟨wr.heap.size, 0, none⟩))) := (Fr.refl _ _).setAt bx (.inr (Is.self bx)) _ _
  have hlt := h.lt
  have hsz := h.size
  have hnb : ∀ i, ∀ g, BS (w.heap.size + i) (fun _ => .slice none 0 0) g → ¬ Is bx g := fun i g hg e => by
    have e : g = bx := e
    rcases hg with hg | hg | hg
    · omega
    · simp [OwnS, Value.ownBlock] at hg
    · simp [OwnS, Value.ownBlock] at hg
  refine ⟨?_, by simp [World.setCell]; omega, fun i hi => ?_, (h.fr.quiet hf).same hf2, hlt⟩
  · rw [heap_set (hf.heap h.blk id), hsz, pPart_set _ k hk]
  · by_cases he : i = k
    · subst he
      rw [hsz] at hp
      exact hp.fr hf2 (hnb i)
    · exact ((h.book i (by omega)).no hf).fr hf2 (hnb i)

/-- No books yet. -/
theorem run_none (w : World) (k : Nat) (hk : k < 8) : (Instr.index 74 (.agg #[.pointer none, .pointer none, .pointer none, .pointer none, .pointer none, .pointer none, .pointer none, .pointer none]) (.int .i64 (k : Int))).run Tryz.prog w = .ok (.pointer none) w := by
  have e0 : (Instr.index 74 (.agg #[.pointer none, .pointer none, .pointer none, .pointer none, .pointer none, .pointer none, .pointer none, .pointer none]) (.int .i64 ((0 : Nat) : Int))).run Tryz.prog w = .ok (.pointer none) w := by kernel_rfl
  have e1 : (Instr.index 74 (.agg #[.pointer none, .pointer none, .pointer none, .pointer none, .pointer none, .pointer none, .pointer none, .pointer none]) (.int .i64 ((1 : Nat) : Int))).run Tryz.prog w = .ok (.pointer none) w := by kernel_rfl
  have e2 : (Instr.index 74 (.agg #[.pointer none, .pointer none, .pointer none, .pointer none, .pointer none, .pointer none, .pointer none, .pointer none]) (.int .i64 ((2 : Nat) : Int))).run Tryz.prog w = .ok (.pointer none) w := by kernel_rfl
  have e3 : (Instr.index 74 (.agg #[.pointer none, .pointer none, .pointer none, .pointer none, .pointer none, .pointer none, .pointer none, .pointer none]) (.int .i64 ((3 : Nat) : Int))).run Tryz.prog w = .ok (.pointer none) w := by kernel_rfl
  have e4 : (Instr.index 74 (.agg #[.pointer none, .pointer none, .pointer none, .pointer none, .pointer none, .pointer none, .pointer none, .pointer none]) (.int .i64 ((4 : Nat) : Int))).run Tryz.prog w = .ok (.pointer none) w := by kernel_rfl
  have e5 : (Instr.index 74 (.agg #[.pointer none, .pointer none, .pointer none, .pointer none, .pointer none, .pointer none, .pointer none, .pointer none]) (.int .i64 ((5 : Nat) : Int))).run Tryz.prog w = .ok (.pointer none) w := by kernel_rfl
  have e6 : (Instr.index 74 (.agg #[.pointer none, .pointer none, .pointer none, .pointer none, .pointer none, .pointer none, .pointer none, .pointer none]) (.int .i64 ((6 : Nat) : Int))).run Tryz.prog w = .ok (.pointer none) w := by kernel_rfl
  have e7 : (Instr.index 74 (.agg #[.pointer none, .pointer none, .pointer none, .pointer none, .pointer none, .pointer none, .pointer none, .pointer none]) (.int .i64 ((7 : Nat) : Int))).run Tryz.prog w = .ok (.pointer none) w := by kernel_rfl
  match k, hk with
  | 0, _ => exact e0
  | 1, _ => exact e1
  | 2, _ => exact e2
  | 3, _ => exact e3
  | 4, _ => exact e4
  | 5, _ => exact e5
  | 6, _ => exact e6
  | 7, _ => exact e7

set_option maxHeartbeats 4000000 in
set_option maxRecDepth 20000 in
theorem ready_new (bx : Nat) (w : World) (h : NewMid w w bx 0) : Calls Tryz.prog 22 #[.pointer (some ⟨bx, 0, none⟩)] w fun e w' => e = .returned (.pointer (some ⟨bx, 0, none⟩)) ∧ NewMid w w' bx 8 := by
  have H0 := hide h
  have c0 : w.cell? ⟨bx, 0, none⟩ = some (.pointer none) := cell_heap h.blk 0
  have c1 : w.cell? ⟨bx, 1, none⟩ = some (.pointer none) := cell_heap h.blk 1
  have c2 : w.cell? ⟨bx, 2, none⟩ = some (.pointer none) := cell_heap h.blk 2
  have c3 : w.cell? ⟨bx, 3, none⟩ = some (.pointer none) := cell_heap h.blk 3
  have c4 : w.cell? ⟨bx, 4, none⟩ = some (.pointer none) := cell_heap h.blk 4
  have c5 : w.cell? ⟨bx, 5, none⟩ = some (.pointer none) := cell_heap h.blk 5
  have c6 : w.cell? ⟨bx, 6, none⟩ = some (.pointer none) := cell_heap h.blk 6
  have c7 : w.cell? ⟨bx, 7, none⟩ = some (.pointer none) := cell_heap h.blk 7
  clear h
  go_enter Tryz.func22, Tryz.ntmps22
  go_wp2
  go_loopw [13] (fun i wr => ∃ k : Nat, k ≤ 8 ∧ i = .int .i64 k ∧ NewMid w wr bx k) (fun i _ => 8 - (intOf i).toNat)
  case atStart => exact ⟨0, by omega, rfl, unhide H0⟩
  case round =>
    obtain ⟨k, hk, rfl, hm⟩ := hrel
    by_cases hlt : k < 8
    · have hc : wr.cell? ⟨bx, k, none⟩ = some (.pointer none) := (cell_heap hm.blk k).trans (pPart_get _ k hlt)
      have hz : wr.frozen? ⟨bx, k, none⟩ = false := frozen_heap hm.blk k
      have hb : bx < wr.heap.size := lt_of_heap hm.blk
      have h0 : (0 : Int) ≤ (k : Int) := by omega
      have h8 : (k : Int) < 8 := by omega
      have hix := fun w => run_none w k hlt
      have HM := hide hm
      clear hm
      go_wp2
      go_region_held3 (fun _ : World => True) (trivial)
        (first | (go_at_call 39; refine (bNew_any bx _).mono ?_; rintro e w1 ⟨rfl, hp, hf1, hs1⟩; have hf1' : Fr No wr w1 := ((Fr.refl _ _).drew).quiet hf1; have hc1 := (hf1'.below.cell (p := ⟨bx, k, none⟩) hb).trans hc; have hz1 := (World.frozen?_of_block (a := ⟨bx, k, none⟩) (hf1'.block bx hb id)).trans hz; have HN1 := hide (And.intro hp (And.intro hf1' hs1)); clear hp hf1 hs1 hf1'))
      go_wp2
      go_roundw
      case rel => exact ⟨k + 1, by omega, by go_num, (unhide HM).next hlt (unhide HN1).1 (unhide HN1).2.1 (unhide HN1).2.2⟩
      case measure => simp [intOf]; omega
    · have hk8 : k = 8 := by omega
      rw [hk8] at hm
      have HM := hide hm
      clear hm hk8
      go_wp2
      go_ret
      exact ⟨rfl, unhide HM⟩

set_option maxHeartbeats 1000000 in
theorem pNew_any (w : World) : Calls Tryz.prog 16 #[] w fun e w' => ∃ bb v ro, e = .returned (.pointer (some ⟨w.heap.size, 0, none⟩)) ∧ PitAt w' w.heap.size bb v ro stNil ∧ Fr No w w' ∧ ∀ g, PS w.heap.size bb v g → w.heap.size ≤ g := by
  go_enter Tryz.func16, Tryz.ntmps16
  go_wp2_with fail
  generalize hW : World.alloc w _ = W
  have hb : W.heap[w.heap.size]? = some (.cells (pPart W.heap.size 0) 83 (0, 0)) := by rw [← hW]; exact heap_alloc_new w _
  have hf : Fr No w W := by rw [← hW]; exact (Fr.refl _ _).alloc _
  have hs : w.heap.size < W.heap.size := lt_of_heap hb
  clear hW
  refine (ready_new w.heap.size W ⟨hb, rfl, fun i hi => by omega, Fr.refl _ _, hs⟩).mono ?_
  rintro e w1 ⟨rfl, hm⟩
  have HM := hide hm
  have HF := hide hf
  clear hm hf hb
  go_wp2
  go_ret
  have hm := unhide HM
  have hone : ∀ g k, BS (W.heap.size + k) (fun _ => Value.slice none 0 0) g → g = W.heap.size + k := fun g k hg => by
    rcases hg with hg | hg | hg
    · exact hg
    · simp [OwnS, Value.ownBlock] at hg
    · simp [OwnS, Value.ownBlock] at hg
  refine ⟨fun k => W.heap.size + k, fun _ _ => .slice none 0 0, fun g => if g = w.heap.size then 0 else g - W.heap.size + 1, rfl, ⟨hm.blk, fun k hk => hm.book k hk, by simp, fun k hk g hg => ?_⟩, (unhide HF).trans hm.fr (fun k hk e => by have : k = w.heap.size := e; omega), ?_⟩
  · have := hone g k hg
    rw [if_neg (by omega)]
    omega
  · rintro g (hg | ⟨k, hk, hg⟩)
    · omega
    · have := hone g k hg
      omega
end Go.Proofs.YtigpgnjgmaoejaaGreat
