/- How the program's pit lies in memory (PitAt), and contracts of ready, book, resting, restingOf. Conditions: the pit lies in memory. -/
import Derived.Test.YtdibeaipllmifaaGreatProgGN
import Derived.Laws.Externs
import Derived.Test.YtdibeaipllmifaaGreatLay
import Derived.Test.YtdibeaipllmifaaGreatRefL
import Derived.Test.YtdibeaipllmifaaGreatRefO
import Derived.Deep.RegionHeld3
namespace Go.Proofs.YtdibeaipllmifaaGreat
open Go.RowKit

def pitCells (bb : Nat → Nat) (vol : Int) : Array Value :=
  #[.pointer (some ⟨bb 0, 0, none⟩), .pointer (some ⟨bb 1, 0, none⟩), .pointer (some ⟨bb 2, 0, none⟩), .pointer (some ⟨bb 3, 0, none⟩), .pointer (some ⟨bb 4, 0, none⟩), .pointer (some ⟨bb 5, 0, none⟩), .pointer (some ⟨bb 6, 0, none⟩), .pointer (some ⟨bb 7, 0, none⟩), .int .i64 vol]

/-- What rests in the book at a place. -/
def inBook (L : List Ord) (k : Nat) : Nat → List Ord := fun j => sideOf ((k : Int) + 1) ((j : Int) + 1) L

/-- The program's pit: its books, their slices, and which book a block is of (0: of none). -/
structure PitAt (w : World) (bx : Nat) (bb : Nat → Nat) (v : Nat → Nat → Value) (ro : Nat → Nat) (s : Ref) : Prop where
  blk : w.heap[bx]? = some (.cells (pitCells bb (volTo s.td 8)) 60 (0, 0))
  book : ∀ k, k < 8 → PB w (bb k) bx (s.tr (k + 1)) (s.td (k + 1)) (v k) (inBook s.L k)
  ro0 : ro bx = 0
  rob : ∀ k, k < 8 → ∀ g, BS (bb k) (v k) g → ro g = k + 1

/-- All its blocks. -/
def PS (bx : Nat) (bb : Nat → Nat) (v : Nat → Nat → Value) : Nat → Prop := fun g => g = bx ∨ ∃ k, k < 8 ∧ BS (bb k) (v k) g

theorem PitAt.fr {S : Nat → Prop} {w w' : World} {bx : Nat} {bb : Nat → Nat} {v : Nat → Nat → Value} {ro : Nat → Nat} {s : Ref} (h : PitAt w bx bb v ro s) (hf : Fr S w w') (hS : ∀ g, PS bx bb v g → ¬ S g) : PitAt w' bx bb v ro s :=
  ⟨hf.heap h.blk (hS _ (.inl rfl)), fun k hk => (h.book k hk).fr hf (fun g hg => hS g (.inr ⟨k, hk, hg⟩)), h.ro0, h.rob⟩
theorem PitAt.no {w w' : World} {bx : Nat} {bb : Nat → Nat} {v : Nat → Nat → Value} {ro : Nat → Nat} {s : Ref} (h : PitAt w bx bb v ro s) (hf : Fr No w w') : PitAt w' bx bb v ro s := h.fr hf fun _ _ => id
theorem PitAt.lt {w : World} {bx : Nat} {bb : Nat → Nat} {v : Nat → Nat → Value} {ro : Nat → Nat} {s : Ref} (h : PitAt w bx bb v ro s) : ∀ g, PS bx bb v g → g < w.heap.size := by
  rintro g (rfl | ⟨k, hk, hg⟩)
  · exact lt_of_heap h.blk
  · have hb := h.book k hk
    rcases hg with rfl | hg | hg
    · exact hb.lt
    · exact ((hb.own 0 (by omega)).lt g hg).2
    · exact ((hb.own 1 (by omega)).lt g hg).2
theorem PitAt.cellB {w : World} {bx : Nat} {bb : Nat → Nat} {v : Nat → Nat → Value} {ro : Nat → Nat} {s : Ref} (h : PitAt w bx bb v ro s) (k : Nat) (hk : k < 8) : w.cell? ⟨bx, k, none⟩ = some (.pointer (some ⟨bb k, 0, none⟩)) := by
  rw [cell_heap h.blk]
  match k, hk with
  | 0, _ | 1, _ | 2, _ | 3, _ | 4, _ | 5, _ | 6, _ | 7, _ => rfl
theorem PitAt.cellV {w : World} {bx : Nat} {bb : Nat → Nat} {v : Nat → Nat → Value} {ro : Nat → Nat} {s : Ref} (h : PitAt w bx bb v ro s) : w.cell? ⟨bx, 8, none⟩ = some (.int .i64 (volTo s.td 8)) := by
  rw [cell_heap h.blk]; rfl

/-- One book is another now. -/
theorem PitAt.to {w w' : World} {bx : Nat} {bb : Nat → Nat} {v : Nat → Nat → Value} {ro : Nat → Nat} {s : Ref} (h : PitAt w bx bb v ro s) {k : Nat} (hk : k < 8) {v' : Nat → Value} {M' : Nat → List Ord} {L' : List Ord}
    (hb : BTo w w' (bb k) bx (s.tr (k + 1)) (s.td (k + 1)) (v k) v' M') (hM : ∀ j, j < 2 → M' j = inBook L' k j) (ho : ∀ i, i < 8 → i ≠ k → ∀ j, j < 2 → inBook s.L i j = inBook L' i j) :
    ∃ ro', PitAt w' bx bb (upd v k v') ro' { s with L := L' } ∧ Fr (PS bx bb v) w w' ∧ ∀ g, PS bx bb (upd v k v') g → PS bx bb v g ∨ w.heap.size ≤ g := by
  have hdis : ∀ i, i < 8 → i ≠ k → ∀ g, BS (bb i) (v i) g → ¬ BS (bb k) (v k) g := fun i hi hik g h1 h2 => by
    have a := h.rob i hi g h1
    have b := h.rob k hk g h2
    omega
  have hbx : ¬ BS (bb k) (v k) bx := fun e => by have a := h.rob k hk bx e; have b := h.ro0; omega
  have hvi : ∀ i, i ≠ k → upd v k v' i = v i := fun i hi => by simp [upd, hi]
  have hvk : upd v k v' k = v' := by simp [upd]
  refine ⟨fun g => if w.heap.size ≤ g then k + 1 else ro g, ⟨hb.fr.heap h.blk hbx, fun i hi => ?_, ?_, fun i hi g hg => ?_⟩, hb.fr.mono fun g _ e => .inr ⟨k, hk, e⟩, ?_⟩
  · by_cases hik : i = k
    · subst hik
      rw [hvk]
      exact hb.pb.congr hM
    · rw [hvi i hik]
      exact ((h.book i hi).fr hb.fr (hdis i hi hik)).congr (ho i hi hik)
  · have := lt_of_heap h.blk
    rw [if_neg (by omega)]
    exact h.ro0
  · by_cases hik : i = k
    · subst hik
      rw [hvk] at hg
      rcases hb.new g hg with h1 | h1
      · have := h.lt g (.inr ⟨i, hi, h1⟩)
        rw [if_neg (by omega)]
        exact h.rob i hi g h1
      · simp [h1]
    · rw [hvi i hik] at hg
      have := h.lt g (.inr ⟨i, hi, hg⟩)
      rw [if_neg (by omega)]
      exact h.rob i hi g hg
  · rintro g (hg | ⟨i, hi, hg⟩)
    · exact .inl (.inl hg)
    · by_cases hik : i = k
      · subst hik
        rw [hvk] at hg
        exact (hb.new g hg).imp (fun h1 => .inr ⟨i, hi, h1⟩) id
      · rw [hvi i hik] at hg
        exact .inl (.inr ⟨i, hi, hg⟩)

set_option maxHeartbeats 1000000 in
theorem ready_any (bx : Nat) (bb : Nat → Nat) (v : Nat → Nat → Value) (ro : Nat → Nat) (s : Ref) (w : World) (h : PitAt w bx bb v ro s) :
    Calls Tryz.prog 11 #[.pointer (some ⟨bx, 0, none⟩)] w fun e w' => e = .returned (.pointer (some ⟨bx, 0, none⟩)) ∧ w' = w := by
  have HP := hide h
  clear h
  go_enter Tryz.func11, Tryz.ntmps11
  go_wp2
  go_loop [7] (fun i => ∃ k : Nat, k ≤ 8 ∧ i = .int .i64 k) (fun i => 8 - (intOf i).toNat)
  case atStart => exact ⟨0, by omega, rfl⟩
  case round =>
    obtain ⟨k, hk, rfl⟩ := hrel
    by_cases hlt : k < 8
    · have hc := (unhide HP).cellB k hlt
      have h0 : (0 : Int) ≤ (k : Int) := by omega
      have h8 : (k : Int) < 8 := by omega
      go_wp2
      go_round
      case rel => exact ⟨k + 1, by omega, by go_num⟩
      case measure => simp [intOf]; omega
    · go_wp2
      go_ret
      exact ⟨rfl, rfl⟩

set_option maxHeartbeats 1000000 in
theorem pBook_any (bx : Nat) (bb : Nat → Nat) (v : Nat → Nat → Value) (ro : Nat → Nat) (s : Ref) (k : Nat) (hk : k < 8) (n : Int) (hn : n = (k : Int) + 1) (w : World) (h : PitAt w bx bb v ro s) :
    Calls Tryz.prog 52 #[.pointer (some ⟨bx, 0, none⟩), .int .i64 n] w fun e w' => e = .returned (.pointer (some ⟨bb k, 0, none⟩)) ∧ w' = w := by
  subst hn
  have hc := h.cellB k hk
  have h0 : (0 : Int) ≤ (k : Int) := by omega
  have h8 : (k : Int) < 8 := by omega
  clear h
  go_enter Tryz.func52, Tryz.ntmps52
  go_wp2
  go_ret
  exact ⟨rfl, rfl⟩
end Go.Proofs.YtdibeaipllmifaaGreat

/- Contracts of the pit's Volume and of a new book. Conditions: the pit lies in memory. -/
namespace Go.Proofs.YtdibeaipllmifaaGreat
open Go.RowKit

theorem run_loadInt {w : World} {a : Addr} {n : Int} (h : w.cell? a = some (.int .i64 n)) : (callFunc 83 #[.pointer (some a)]).run Tryz.prog w = .ok (.value (.int .i64 n)) w := by
  rw [run_callFunc_extern Tryz.func83 (by kernel_rfl) (by kernel_rfl) (by kernel_rfl) (e := Extern.Atomic.loadT (.int .i64)) (by kernel_rfl)]
  have e : Extern.Atomic.loadT (.int .i64) #[.pointer (some a)] = (do Extern.Atomic.read (.int .i64) (← asAddr (.pointer (some a)))) := rfl
  rw [e]
  simp [Extern.Atomic.read, asAddr, go_sem, h]

set_option maxHeartbeats 1000000 in
theorem aLoad_any (a : Nat) (o : Nat) (n : Int) (w : World) (h : w.cell? ⟨a, o, none⟩ = some (.int .i64 n)) :
    Calls Tryz.prog 44 #[.pointer (some ⟨a, o, none⟩)] w fun e w' => e = .returned (.int .i64 n) ∧ w' = w := by
  have hld := run_loadInt h
  go_enter Tryz.func44, Tryz.ntmps44
  go_wp2_with (simp only [hld])
  go_ret
  exact ⟨rfl, rfl⟩

set_option maxHeartbeats 1000000 in
theorem pVolume_any (bx : Nat) (bb : Nat → Nat) (v : Nat → Nat → Value) (ro : Nat → Nat) (s : Ref) (w : World) (h : PitAt w bx bb v ro s) :
    Calls Tryz.prog 19 #[.pointer (some ⟨bx, 0, none⟩)] w fun e w' => e = .returned (.int .i64 (volTo s.td 8)) ∧ w' = w := by
  have HP := hide h
  clear h
  go_enter Tryz.func19, Tryz.ntmps19
  go_wp2_with (first
    | (go_at_call 11; refine (ready_any bx bb v ro s _ (unhide HP)).mono ?_; rintro e w0 ⟨rfl, rfl⟩)
    | (go_at_call 44; refine (aLoad_any bx 8 _ _ (unhide HP).cellV).mono ?_; rintro e w0 ⟨rfl, rfl⟩))
  go_ret
  exact ⟨rfl, rfl⟩
end Go.Proofs.YtdibeaipllmifaaGreat

/- Contracts of a new book and of a new pit. No condition. -/
namespace Go.Proofs.YtdibeaipllmifaaGreat
open Go.RowKit

set_option maxHeartbeats 2000000 in
theorem bNew_any (bx : Nat) (w : World) : Calls Tryz.prog 22 #[.pointer (some ⟨bx, 8, none⟩)] w fun e w' =>
    e = .returned (.pointer (some ⟨w.heap.size, 0, none⟩)) ∧ PB w' w.heap.size bx false 0 (fun _ => .slice none 0 0) (fun _ => []) ∧ Fr No w w' ∧ w'.heap.size = w.heap.size + 1 := by
  have hrow : ∀ c : Array Value, (w.alloc (.cells c 107)).heap[w.heap.size]? = some (.cells c 107 (0, 0)) := fun c => heap_alloc_new w _
  have hset : ∀ (c : Array Value) (k : Nat) (u : Value), (w.alloc (.cells c 107)).setCell ⟨w.heap.size, k, none⟩ u = w.alloc (.cells (c.setIfInBounds k u) 107) := fun c k u => World.setCell_alloc_at c _ w.heap.size k u rfl
  have hst1 : (store ⟨w.heap.size, 4, none⟩ (beatsV 1 w.heap.size 3)).run Tryz.prog (w.alloc (.cells #[.int .i64 1, .int .i64 0, .pointer (some ⟨bx, 8, none⟩), .slice none 0 0, .nilFunc, .slice none 0 0, .nilFunc] 107)) = .ok () (w.alloc (.cells #[.int .i64 1, .int .i64 0, .pointer (some ⟨bx, 8, none⟩), .slice none 0 0, beatsV 1 w.heap.size 3, .slice none 0 0, .nilFunc] 107)) := by
    rw [run_store Tryz.prog _ _ _ _ rfl, cell_heap (hrow _), frozen_heap (hrow _), hset]
    simp
  have hst2 : (store ⟨w.heap.size, 6, none⟩ (beatsV 2 w.heap.size 5)).run Tryz.prog (w.alloc (.cells #[.int .i64 1, .int .i64 0, .pointer (some ⟨bx, 8, none⟩), .slice none 0 0, beatsV 1 w.heap.size 3, .slice none 0 0, .nilFunc] 107)) = .ok () (w.alloc (.cells #[.int .i64 1, .int .i64 0, .pointer (some ⟨bx, 8, none⟩), .slice none 0 0, beatsV 1 w.heap.size 3, .slice none 0 0, beatsV 2 w.heap.size 5] 107)) := by
    rw [run_store Tryz.prog _ _ _ _ rfl, cell_heap (hrow _), frozen_heap (hrow _), hset]
    simp
  rw [show beatsV 1 w.heap.size 3 = .func (.func 48) #[.pointer (some ⟨w.heap.size, 3, none⟩)] #[] from rfl] at hst1 hst2
  rw [show beatsV 2 w.heap.size 5 = .func (.func 49) #[.pointer (some ⟨w.heap.size, 5, none⟩)] #[] from rfl] at hst2
  clear hset hrow
  have hmf : ∀ (fn : Fn) (first cap : Array Value) (w : World), (Instr.makeFunc fn first cap).run Tryz.prog w = .ok (.func fn first cap) w := fun _ _ _ _ => rfl
  go_enter Tryz.func22, Tryz.ntmps22
  go_wp2_with (go_at_call 47; refine (bSide_any _ _ (by first | exact .inl rfl | exact .inr rfl) _).mono ?_; rintro e w2 ⟨rfl, rfl⟩; first | rw [show sAt 1 = 3 from rfl] | rw [show sAt 2 = 5 from rfl])
  go_ret
  exact ⟨rfl, ⟨heap_alloc_new w _, fun j _ => World.ownsRow_nil _ _ _ _, fun j _ => by simp, fun j _ e => by simp [OwnS, Value.ownBlock] at e, fun g e => by simp [OwnS, Value.ownBlock] at e⟩, (Fr.refl _ _).alloc _, by simp⟩
end Go.Proofs.YtdibeaipllmifaaGreat

/- Contract of a new pit. No condition. -/
namespace Go.Proofs.YtdibeaipllmifaaGreat
open Go.RowKit

def pPart (N k : Nat) : Array Value :=
  #[if 0 < k then .pointer (some ⟨N + 0, 0, none⟩) else .pointer none, if 1 < k then .pointer (some ⟨N + 1, 0, none⟩) else .pointer none, if 2 < k then .pointer (some ⟨N + 2, 0, none⟩) else .pointer none, if 3 < k then .pointer (some ⟨N + 3, 0, none⟩) else .pointer none,
    if 4 < k then .pointer (some ⟨N + 4, 0, none⟩) else .pointer none, if 5 < k then .pointer (some ⟨N + 5, 0, none⟩) else .pointer none, if 6 < k then .pointer (some ⟨N + 6, 0, none⟩) else .pointer none, if 7 < k then .pointer (some ⟨N + 7, 0, none⟩) else .pointer none, .int .i64 0]
theorem pPart_get (N : Nat) : ∀ k, k < 8 → (pPart N k)[k]? = some (.pointer none)
  | 0, _ | 1, _ | 2, _ | 3, _ | 4, _ | 5, _ | 6, _ | 7, _ => rfl
theorem pPart_set (N : Nat) : ∀ k, k < 8 → (pPart N k).setIfInBounds k (.pointer (some ⟨N + k, 0, none⟩)) = pPart N (k + 1)
  | 0, _ | 1, _ | 2, _ | 3, _ | 4, _ | 5, _ | 6, _ | 7, _ => rfl

structure NewMid (w wr : World) (bx k : Nat) : Prop where
  blk : wr.heap[bx]? = some (.cells (pPart w.heap.size k) 60 (0, 0))
  size : wr.heap.size = w.heap.size + k
  book : ∀ i, i < k → PB wr (w.heap.size + i) bx false 0 (fun _ => .slice none 0 0) (fun _ => [])
  fr : Fr (Is bx) w wr
  lt : bx < w.heap.size

theorem NewMid.next {w wr w1 : World} {bx k : Nat} (h : NewMid w wr bx k) (hk : k < 8) (hp : PB w1 wr.heap.size bx false 0 (fun _ => .slice none 0 0) (fun _ => [])) (hf : Fr No wr w1) (hs : w1.heap.size = wr.heap.size + 1) :
    NewMid w (w1.setCell ⟨bx, k, none⟩ (.pointer (some ⟨wr.heap.size, 0, none⟩))) bx (k + 1) := by
  have hf2 : Fr (Is bx) w1 (w1.setCell ⟨bx, k, none⟩ (.pointer (some ⟨wr.heap.size, 0, none⟩))) := (Fr.refl _ _).setAt bx (.inr (Is.self bx)) _ _
  have hlt := h.lt
  have hsz := h.size
  have hnb : ∀ i, ∀ g, BS (w.heap.size + i) (fun _ => .slice none 0 0) g → ¬ Is bx g := fun i g hg e => by
    have e : g = bx := e
    rcases hg with hg | hg | hg
    · omega
    · simp [OwnS, Value.ownBlock] at hg
    · simp [OwnS, Value.ownBlock] at hg
  refine ⟨?_, by simp [World.setCell]; omega, fun i hi => ?_, (h.fr.quiet hf).same hf2, hlt⟩
  · rw [heap_set (hf.heap h.blk id), hsz, pPart_set _ k hk]
  · by_cases he : i = k
    · subst he
      rw [hsz] at hp
      exact hp.fr hf2 (hnb i)
    · exact ((h.book i (by omega)).no hf).fr hf2 (hnb i)

set_option maxHeartbeats 4000000 in
set_option maxRecDepth 20000 in
theorem ready_new (bx : Nat) (w : World) (h : NewMid w w bx 0) : Calls Tryz.prog 11 #[.pointer (some ⟨bx, 0, none⟩)] w fun e w' => e = .returned (.pointer (some ⟨bx, 0, none⟩)) ∧ NewMid w w' bx 8 := by
  have H0 := hide h
  clear h
  go_enter Tryz.func11, Tryz.ntmps11
  go_wp2
  go_loopw [7] (fun i wr => ∃ k : Nat, k ≤ 8 ∧ i = .int .i64 k ∧ NewMid w wr bx k) (fun i _ => 8 - (intOf i).toNat)
  case atStart => exact ⟨0, by omega, rfl, unhide H0⟩
  case round =>
    obtain ⟨k, hk, rfl, hm⟩ := hrel
    by_cases hlt : k < 8
    · have hc : wr.cell? ⟨bx, k, none⟩ = some (.pointer none) := (cell_heap hm.blk k).trans (pPart_get _ k hlt)
      have hz : wr.frozen? ⟨bx, k, none⟩ = false := frozen_heap hm.blk k
      have hb : bx < wr.heap.size := lt_of_heap hm.blk
      have h0 : (0 : Int) ≤ (k : Int) := by omega
      have h8 : (k : Int) < 8 := by omega
      have HM := hide hm
      clear hm
      go_wp2
      go_region_held3 (fun _ : World => True) (trivial)
        (first | (go_at_call 22; refine (bNew_any bx _).mono ?_; rintro e w1 ⟨rfl, hp, hf1, hs1⟩; have hf1' : Fr No wr w1 := ((Fr.refl _ _).drew).quiet hf1; have hc1 := (hf1'.below.cell (p := ⟨bx, k, none⟩) hb).trans hc; have hz1 := (World.frozen?_of_block (a := ⟨bx, k, none⟩) (hf1'.block bx hb id)).trans hz; have HN1 := hide (And.intro hp (And.intro hf1' hs1)); clear hp hf1 hs1 hf1'))
      go_wp2
      go_roundw
      case rel => exact ⟨k + 1, by omega, by go_num, (unhide HM).next hlt (unhide HN1).1 (unhide HN1).2.1 (unhide HN1).2.2⟩
      case measure => simp [intOf]; omega
    · have hk8 : k = 8 := by omega
      rw [hk8] at hm
      have HM := hide hm
      clear hm hk8
      go_wp2
      go_ret
      exact ⟨rfl, unhide HM⟩

set_option maxHeartbeats 1000000 in
theorem pNew_any (w : World) : Calls Tryz.prog 6 #[] w fun e w' => ∃ bb v ro, e = .returned (.pointer (some ⟨w.heap.size, 0, none⟩)) ∧ PitAt w' w.heap.size bb v ro (refNil []) ∧ Fr No w w' ∧ ∀ g, PS w.heap.size bb v g → w.heap.size ≤ g := by
  go_enter Tryz.func6, Tryz.ntmps6
  go_wp2_with fail
  generalize hW : World.alloc w _ = W
  have hb : W.heap[w.heap.size]? = some (.cells (pPart W.heap.size 0) 60 (0, 0)) := by rw [← hW]; exact heap_alloc_new w _
  have hf : Fr No w W := by rw [← hW]; exact (Fr.refl _ _).alloc _
  have hs : w.heap.size < W.heap.size := lt_of_heap hb
  clear hW
  refine (ready_new w.heap.size W ⟨hb, rfl, fun i hi => by omega, Fr.refl _ _, hs⟩).mono ?_
  rintro e w1 ⟨rfl, hm⟩
  have HM := hide hm
  have HF := hide hf
  clear hm hf hb
  go_wp2
  go_ret
  have hm := unhide HM
  have hone : ∀ g k, BS (W.heap.size + k) (fun _ => Value.slice none 0 0) g → g = W.heap.size + k := fun g k hg => by
    rcases hg with hg | hg | hg
    · exact hg
    · simp [OwnS, Value.ownBlock] at hg
    · simp [OwnS, Value.ownBlock] at hg
  refine ⟨fun k => W.heap.size + k, fun _ _ => .slice none 0 0, fun g => if g = w.heap.size then 0 else g - W.heap.size + 1, rfl, ⟨hm.blk, fun k hk => hm.book k hk, by simp, fun k hk g hg => ?_⟩, (unhide HF).trans hm.fr (fun k hk e => by have : k = w.heap.size := e; omega), ?_⟩
  · have := hone g k hg
    rw [if_neg (by omega)]
    omega
  · rintro g (hg | ⟨k, hk, hg⟩)
    · omega
    · have := hone g k hg
      omega
end Go.Proofs.YtdibeaipllmifaaGreat
