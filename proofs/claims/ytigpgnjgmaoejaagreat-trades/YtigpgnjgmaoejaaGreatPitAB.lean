/- How the program's pit lies in memory (PitAt), and contracts of ready and of a desk's book. Conditions: the pit lies in memory. -/
import Derived.Test.YtigpgnjgmaoejaaGreatTrDE
import Derived.Test.YtigpgnjgmaoejaaGreatMarts
namespace Go.Proofs.YtigpgnjgmaoejaaGreat
open Go.RowKit

def pitCells (bb : Nat → Nat) (vol : Int) : Array Value :=
  #[.pointer (some ⟨bb 0, 0, none⟩), .pointer (some ⟨bb 1, 0, none⟩), .pointer (some ⟨bb 2, 0, none⟩), .pointer (some ⟨bb 3, 0, none⟩), .pointer (some ⟨bb 4, 0, none⟩), .pointer (some ⟨bb 5, 0, none⟩), .pointer (some ⟨bb 6, 0, none⟩), .pointer (some ⟨bb 7, 0, none⟩), .int .i64 vol]

/-- The program's pit: its books, their slices, and which book a block is of (0: of none). -/
structure PitAt (w : World) (bx : Nat) (bb : Nat → Nat) (v : Nat → Nat → Value) (ro : Nat → Nat) (s : St) : Prop where
  blk : w.heap[bx]? = some (.cells (pitCells bb s.vol) 83 (0, 0))
  book : ∀ k, k < 8 → PB w (bb k) bx (s.tr k) (s.td k) (v k) (s.M k)
  ro0 : ro bx = 0
  rob : ∀ k, k < 8 → ∀ g, BS (bb k) (v k) g → ro g = k + 1

/-- All its blocks. -/
def PS (bx : Nat) (bb : Nat → Nat) (v : Nat → Nat → Value) : Nat → Prop := fun g => g = bx ∨ ∃ k, k < 8 ∧ BS (bb k) (v k) g

theorem PitAt.fr {S : Nat → Prop} {w w' : World} {bx : Nat} {bb : Nat → Nat} {v : Nat → Nat → Value} {ro : Nat → Nat} {s : St} (h : PitAt w bx bb v ro s) (hf : Fr S w w') (hS : ∀ g, PS bx bb v g → ¬ S g) : PitAt w' bx bb v ro s :=
  ⟨hf.heap h.blk (hS _ (.inl rfl)), fun k hk => (h.book k hk).fr hf (fun g hg => hS g (.inr ⟨k, hk, hg⟩)), h.ro0, h.rob⟩
theorem PitAt.no {w w' : World} {bx : Nat} {bb : Nat → Nat} {v : Nat → Nat → Value} {ro : Nat → Nat} {s : St} (h : PitAt w bx bb v ro s) (hf : Fr No w w') : PitAt w' bx bb v ro s := h.fr hf fun _ _ => id
theorem PitAt.lt {w : World} {bx : Nat} {bb : Nat → Nat} {v : Nat → Nat → Value} {ro : Nat → Nat} {s : St} (h : PitAt w bx bb v ro s) : ∀ g, PS bx bb v g → g < w.heap.size := by
  rintro g (rfl | ⟨k, hk, hg⟩)
  · exact lt_of_heap h.blk
  · exact (h.book k hk).blt g hg
theorem PitAt.cellB {w : World} {bx : Nat} {bb : Nat → Nat} {v : Nat → Nat → Value} {ro : Nat → Nat} {s : St} (h : PitAt w bx bb v ro s) (k : Nat) (hk : k < 8) : w.cell? ⟨bx, k, none⟩ = some (.pointer (some ⟨bb k, 0, none⟩)) := by
  rw [cell_heap h.blk]
  match k, hk with
  | 0, _ | 1, _ | 2, _ | 3, _ | 4, _ | 5, _ | 6, _ | 7, _ => rfl
theorem PitAt.cellV {w : World} {bx : Nat} {bb : Nat → Nat} {v : Nat → Nat → Value} {ro : Nat → Nat} {s : St} (h : PitAt w bx bb v ro s) : w.cell? ⟨bx, 8, none⟩ = some (.int .i64 s.vol) := by
  rw [cell_heap h.blk]; rfl
theorem pitCells_set (bb : Nat → Nat) (vol vol' : Int) : (pitCells bb vol).setIfInBounds 8 (.int .i64 vol') = pitCells bb vol' := rfl
/-- A book and the total. -/
theorem PitAt.px {w : World} {bx : Nat} {bb : Nat → Nat} {v : Nat → Nat → Value} {ro : Nat → Nat} {s : St} (h : PitAt w bx bb v ro s) {k : Nat} (hk : k < 8) : PX w (bb k) bx (s.tr k) (s.td k) (v k) (s.M k) (pitCells bb s.vol) s.vol :=
  ⟨h.book k hk, h.blk, by simp [pitCells], fun e => by have a := h.rob k hk bx e; have b := h.ro0; omega⟩

/-- The pit is another now. -/
structure PitTo (w w' : World) (bx : Nat) (bb : Nat → Nat) (v v' : Nat → Nat → Value) (ro' : Nat → Nat) (s' : St) : Prop where
  pit : PitAt w' bx bb v' ro' s'
  fr : Fr (PS bx bb v) w w'
  new : ∀ g, PS bx bb v' g → PS bx bb v g ∨ w.heap.size ≤ g

theorem PitTo.refl {w w' : World} {bx : Nat} {bb : Nat → Nat} {v : Nat → Nat → Value} {ro : Nat → Nat} {s : St} (h : PitAt w bx bb v ro s) (hf : Fr No w w') : PitTo w w' bx bb v v ro s := ⟨h.no hf, hf.of_no, fun _ hg => .inl hg⟩
theorem PitTo.trans {w w1 w2 : World} {bx : Nat} {bb : Nat → Nat} {v v1 v2 : Nat → Nat → Value} {ro1 ro2 : Nat → Nat} {s1 s2 : St} (h : PitTo w w1 bx bb v v1 ro1 s1) (k : PitTo w1 w2 bx bb v1 v2 ro2 s2) : PitTo w w2 bx bb v v2 ro2 s2 := by
  refine ⟨k.pit, h.fr.trans k.fr fun q hq e => ?_, fun g hg => ?_⟩
  · rcases h.new q e with h1 | h1
    · exact h1
    · omega
  · rcases k.new g hg with h1 | h1
    · exact h.new g h1
    · exact .inr (Nat.le_trans h.fr.size h1)
theorem PitTo.after {w w0 w1 : World} {bx : Nat} {bb : Nat → Nat} {v v1 : Nat → Nat → Value} {ro1 : Nat → Nat} {s1 : St} (hf : Fr No w w0) (h : PitTo w0 w1 bx bb v v1 ro1 s1) : PitTo w w1 bx bb v v1 ro1 s1 :=
  ⟨h.pit, hf.of_no.same h.fr, fun g hg => (h.new g hg).imp id fun k => Nat.le_trans hf.size k⟩
theorem PitTo.no {w w1 w2 : World} {bx : Nat} {bb : Nat → Nat} {v v1 : Nat → Nat → Value} {ro1 : Nat → Nat} {s1 : St} (h : PitTo w w1 bx bb v v1 ro1 s1) (hf : Fr No w1 w2) : PitTo w w2 bx bb v v1 ro1 s1 :=
  ⟨h.pit.no hf, h.fr.quiet hf, h.new⟩

/-- One book, and the total, are others now. -/
theorem PitAt.turned {w w' : World} {bx : Nat} {bb : Nat → Nat} {v : Nat → Nat → Value} {ro : Nat → Nat} {s : St} (h : PitAt w bx bb v ro s) {k : Nat} (hk : k < 8) {v' : Nat → Value} {M' : Nat → List Ord} {tr' : Bool} {td' vol' : Int}
    (hp : PX w' (bb k) bx tr' td' v' M' (pitCells bb s.vol) vol') (hf : Fr (XS (bb k) bx (v k)) w w') (hn : ∀ g, BS (bb k) v' g → BS (bb k) (v k) g ∨ w.heap.size ≤ g) :
    ∃ ro', PitTo w w' bx bb v (upd v k v') ro' ⟨upd s.tr k tr', upd s.td k td', upd s.M k M', vol'⟩ := by
  have hdis : ∀ i, i < 8 → i ≠ k → ∀ g, BS (bb i) (v i) g → ¬ XS (bb k) bx (v k) g := fun i hi hik g h1 h2 => by
    have a := h.rob i hi g h1
    rcases h2 with h2 | h2
    · have b := h.ro0; rw [← h2] at b; omega
    · have b := h.rob k hk g h2; omega
  have hvi : ∀ i, i ≠ k → upd v k v' i = v i := fun i hi => upd_other hi
  have hvk : upd v k v' k = v' := upd_self _ _ _
  refine ⟨fun g => if w.heap.size ≤ g then k + 1 else ro g, ⟨?_, fun i hi => ?_, ?_, fun i hi g hg => ?_⟩, hf.mono fun g _ e => ?_, ?_⟩
  · have := hp.tot
    rw [pitCells_set] at this
    exact this
  · by_cases hik : i = k
    · subst hik
      rw [hvk]
      simp only [upd_self]
      exact hp.pb
    · rw [hvi i hik]
      simp only [upd_other hik]
      exact (h.book i hi).fr hf (hdis i hi hik)
  · have := lt_of_heap h.blk
    rw [if_neg (by omega)]
    exact h.ro0
  · by_cases hik : i = k
    · subst hik
      rw [hvk] at hg
      rcases hn g hg with h1 | h1
      · have := h.lt g (.inr ⟨i, hi, h1⟩)
        rw [if_neg (by omega)]
        exact h.rob i hi g h1
      · simp [h1]
    · rw [hvi i hik] at hg
      have := h.lt g (.inr ⟨i, hi, hg⟩)
      rw [if_neg (by omega)]
      exact h.rob i hi g hg
  · rcases e with e | e
    · exact .inl e
    · exact .inr ⟨k, hk, e⟩
  · rintro g (hg | ⟨i, hi, hg⟩)
    · exact .inl (.inl hg)
    · by_cases hik : i = k
      · subst hik
        rw [hvk] at hg
        exact (hn g hg).imp (fun h1 => .inr ⟨i, hi, h1⟩) id
      · rw [hvi i hik] at hg
        exact .inl (.inr ⟨i, hi, hg⟩)
/-- What rests in one book is another now. -/
theorem PitAt.to {w w' : World} {bx : Nat} {bb : Nat → Nat} {v : Nat → Nat → Value} {ro : Nat → Nat} {s : St} (h : PitAt w bx bb v ro s) {k : Nat} (hk : k < 8) {v' : Nat → Value} {M' : Nat → List Ord} (hb : BTo w w' (bb k) bx (s.tr k) (s.td k) (v k) v' M') :
    ∃ ro', PitTo w w' bx bb v (upd v k v') ro' { s with M := upd s.M k M' } := by
  obtain ⟨ro', h'⟩ := h.turned hk ((h.px hk).to hb) (hb.fr.mono fun _ _ e => .inr e) hb.new
  rw [upd_same, upd_same] at h'
  exact ⟨ro', h'⟩
/-- What Enter does, for the pit. -/
theorem PitAt.met {w w' : World} {bx : Nat} {bb : Nat → Nat} {v : Nat → Nat → Value} {ro : Nat → Nat} {s : St} (h : PitAt w bx bb v ro s) {k : Nat} (hk : k < 8) {v' : Nat → Value} {M' : Nat → List Ord} {td' vol' : Int} {l : Value} {E : List Ev}
    (hb : MeetTo w w' (bb k) bx (s.tr k) (v k) v' M' (pitCells bb s.vol) td' vol' l E) : ∃ ro', PitTo w w' bx bb v (upd v k v') ro' { s with td := upd s.td k td', M := upd s.M k M', vol := vol' } := by
  obtain ⟨ro', h'⟩ := h.turned hk hb.px hb.fr hb.new
  rw [upd_same] at h'
  exact ⟨ro', h'⟩

/-- The books as a value. -/
def booksV (bb : Nat → Nat) : Value := .agg #[.pointer (some ⟨bb 0, 0, none⟩), .pointer (some ⟨bb 1, 0, none⟩), .pointer (some ⟨bb 2, 0, none⟩), .pointer (some ⟨bb 3, 0, none⟩), .pointer (some ⟨bb 4, 0, none⟩), .pointer (some ⟨bb 5, 0, none⟩), .pointer (some ⟨bb 6, 0, none⟩), .pointer (some ⟨bb 7, 0, none⟩)]
theorem run_books (bb : Nat → Nat) (w : World) (k : Nat) (hk : k < 8) : (Instr.index 74 (booksV bb) (.int .i64 (k : Int))).run Tryz.prog w = .ok (.pointer (some ⟨bb k, 0, none⟩)) w := by
  have e0 : (Instr.index 74 (booksV bb) (.int .i64 ((0 : Nat) : Int))).run Tryz.prog w = .ok (.pointer (some ⟨bb 0, 0, none⟩)) w := by kernel_rfl
  have e1 : (Instr.index 74 (booksV bb) (.int .i64 ((1 : Nat) : Int))).run Tryz.prog w = .ok (.pointer (some ⟨bb 1, 0, none⟩)) w := by kernel_rfl
  have e2 : (Instr.index 74 (booksV bb) (.int .i64 ((2 : Nat) : Int))).run Tryz.prog w = .ok (.pointer (some ⟨bb 2, 0, none⟩)) w := by kernel_rfl
  have e3 : (Instr.index 74 (booksV bb) (.int .i64 ((3 : Nat) : Int))).run Tryz.prog w = .ok (.pointer (some ⟨bb 3, 0, none⟩)) w := by kernel_rfl
  have e4 : (Instr.index 74 (booksV bb) (.int .i64 ((4 : Nat) : Int))).run Tryz.prog w = .ok (.pointer (some ⟨bb 4, 0, none⟩)) w := by kernel_rfl
  have e5 : (Instr.index 74 (booksV bb) (.int .i64 ((5 : Nat) : Int))).run Tryz.prog w = .ok (.pointer (some ⟨bb 5, 0, none⟩)) w := by kernel_rfl
  have e6 : (Instr.index 74 (booksV bb) (.int .i64 ((6 : Nat) : Int))).run Tryz.prog w = .ok (.pointer (some ⟨bb 6, 0, none⟩)) w := by kernel_rfl
  have e7 : (Instr.index 74 (booksV bb) (.int .i64 ((7 : Nat) : Int))).run Tryz.prog w = .ok (.pointer (some ⟨bb 7, 0, none⟩)) w := by kernel_rfl
  match k, hk with
  | 0, _ => exact e0
  | 1, _ => exact e1
  | 2, _ => exact e2
  | 3, _ => exact e3
  | 4, _ => exact e4
  | 5, _ => exact e5
  | 6, _ => exact e6
  | 7, _ => exact e7

set_option maxHeartbeats 1000000 in
theorem ready_any (bx : Nat) (bb : Nat → Nat) (v : Nat → Nat → Value) (ro : Nat → Nat) (s : St) (w : World) (h : PitAt w bx bb v ro s) :
    Calls Tryz.prog 22 #[.pointer (some ⟨bx, 0, none⟩)] w fun e w' => e = .returned (.pointer (some ⟨bx, 0, none⟩)) ∧ w' = w := by
  have c0 := h.cellB 0 (by omega)
  have c1 := h.cellB 1 (by omega)
  have c2 := h.cellB 2 (by omega)
  have c3 := h.cellB 3 (by omega)
  have c4 := h.cellB 4 (by omega)
  have c5 := h.cellB 5 (by omega)
  have c6 := h.cellB 6 (by omega)
  have c7 := h.cellB 7 (by omega)
  clear h
  go_enter Tryz.func22, Tryz.ntmps22
  go_wp2
  go_loop [13] (fun i => ∃ k : Nat, k ≤ 8 ∧ i = .int .i64 k) (fun i => 8 - (intOf i).toNat)
  case atStart => exact ⟨0, by omega, rfl⟩
  case round =>
    obtain ⟨k, hk, rfl⟩ := hrel
    by_cases hlt : k < 8
    · have hix := fun w => run_books bb w k hlt
      unfold booksV at hix
      go_wp2
      go_round
      case rel => exact ⟨k + 1, by omega, by go_num⟩
      case measure => simp [intOf]; omega
    · go_wp2
      go_ret
      exact ⟨rfl, rfl⟩

set_option maxHeartbeats 1000000 in
theorem dBook_any (bx : Nat) (bb : Nat → Nat) (v : Nat → Nat → Value) (ro : Nat → Nat) (s : St) (k : Nat) (hk : k < 8) (n : Int) (hn : n = (k : Int) + 1) (w : World) (h : PitAt w bx bb v ro s) :
    Calls Tryz.prog 28 #[.pointer (some ⟨bx, 0, none⟩), .int .i64 n] w fun e w' => e = .returned (.pointer (some ⟨bb k, 0, none⟩)) ∧ w' = w := by
  subst hn
  have hc := h.cellB k hk
  have h0 : (0 : Int) ≤ (k : Int) := by omega
  have h8 : (k : Int) < 8 := by omega
  clear h
  go_enter Tryz.func28, Tryz.ntmps28
  go_wp2
  go_ret
  exact ⟨rfl, rfl⟩
end Go.Proofs.YtigpgnjgmaoejaaGreat

/- Contracts of a desk's resting and restingOf and of the pit's Order. Conditions: the pit lies in memory. -/
namespace Go.Proofs.YtigpgnjgmaoejaaGreat
open Go.RowKit

theorem st6_heap {w : World} {b : Nat} {a0 a1 a2 a3 a4 a5 : Value} {T : TypeId} (h : w.heap[b]? = some (.cells #[a0, a1, a2, a3, a4, a5] T (0, 0))) (x0 x1 x2 x3 x4 x5 : Value) :
    ((((((w.setCell ⟨b, 0, none⟩ x0).setCell ⟨b, 1, none⟩ x1).setCell ⟨b, 2, none⟩ x2).setCell ⟨b, 3, none⟩ x3).setCell ⟨b, 4, none⟩ x4).setCell ⟨b, 5, none⟩ x5).heap[b]? = some (.cells #[x0, x1, x2, x3, x4, x5] T (0, 0)) := by
  rw [heap_set (heap_set (heap_set (heap_set (heap_set (heap_set h 0 x0) 1 x1) 2 x2) 3 x3) 4 x4) 5 x5]
  rfl
theorem st6_fr {S : Nat → Prop} {a w : World} {b : Nat} (h : Fr S a w) (hb : a.heap.size ≤ b ∨ S b) (x0 x1 x2 x3 x4 x5 : Value) :
    Fr S a ((((((w.setCell ⟨b, 0, none⟩ x0).setCell ⟨b, 1, none⟩ x1).setCell ⟨b, 2, none⟩ x2).setCell ⟨b, 3, none⟩ x3).setCell ⟨b, 4, none⟩ x4).setCell ⟨b, 5, none⟩ x5) :=
  (((((h.setAt b hb 0 x0).setAt b hb 1 x1).setAt b hb 2 x2).setAt b hb 3 x3).setAt b hb 4 x4).setAt b hb 5 x5

theorem getTo_ge {s : St} {id : Int} {x : Ord} {k : Nat} : ∀ {n : Nat}, k ≤ n → getTo s id k = some x → getTo s id n = some x
  | 0, hk, h => by have e : k = 0 := by omega
                   subst e; exact h
  | n + 1, hk, h => by
    by_cases e : k = n + 1
    · subst e; exact h
    · rw [getTo, getTo_ge (by omega) h]

set_option maxHeartbeats 8000000 in
set_option maxRecDepth 20000 in
theorem dResting_any (bx : Nat) (bb : Nat → Nat) (v : Nat → Nat → Value) (ro : Nat → Nat) (s : St) (oid : Int) (w : World) (h : PitAt w bx bb v ro s) :
    Calls Tryz.prog 90 #[.pointer (some ⟨bx, 0, none⟩), .int .i64 oid] w fun e w' => e = .returned (ordR (getAt s oid)) ∧ Fr No w w' := by
  have c0 := h.cellB 0 (by omega)
  have c1 := h.cellB 1 (by omega)
  have c2 := h.cellB 2 (by omega)
  have c3 := h.cellB 3 (by omega)
  have c4 := h.cellB 4 (by omega)
  have c5 := h.cellB 5 (by omega)
  have c6 := h.cellB 6 (by omega)
  have c7 := h.cellB 7 (by omega)
  have hbx : bx < w.heap.size := h.lt _ (.inl rfl)
  have HP := hide h
  clear h
  go_enter Tryz.func90, Tryz.ntmps90
  go_wp2
  go_loopw [14] (fun i wr => ∃ k : Nat, k ≤ 8 ∧ i = .int .i64 k ∧ Fr No w wr ∧ wr.heap[w.heap.size]? = some (.cells zCells.toArray 95 (0, 0)) ∧ Hid (getTo s oid k = none)) (fun i _ => 8 - (intOf i).toNat)
  case atStart => exact ⟨0, by omega, rfl, (Fr.refl _ _).alloc _, heap_alloc_new w _, rfl⟩
  case round =>
    obtain ⟨k, hk, rfl, hfr, hz, hno⟩ := hrel
    by_cases hlt : k < 8
    · have hs := hfr.size
      have HF := hide (And.intro hfr hz)
      have hN := lt_of_heap hz
      obtain ⟨z0, z1, z2, z3, z4, z5, hzf⟩ := box6 hz
      have f0 := hzf 0
      have f1 := hzf 1
      have f2 := hzf 2
      have f3 := hzf 3
      have f4 := hzf 4
      have f5 := hzf 5
      have HNO := hno
      have hix := fun w => run_books bb w k hlt
      unfold booksV at hix
      clear hfr hz hno hzf
      go_wp2_with fail
      refine (bOrder_any (bb k) bx _ _ (v k) (s.M k) oid _ (((unhide HP).book k hlt).no (unhide HF).1)).mono ?_
      rintro e w1 ⟨rfl, hf1⟩
      have hz1 := hf1.heap (unhide HF).2 id
      have hfw := (unhide HF).1.quiet hf1
      have HF1 := hide (And.intro hfw hz1)
      obtain ⟨z0', z1', z2', z3', z4', z5', hzf'⟩ := box6 hz1
      have g0 := hzf' 0
      have g1 := hzf' 1
      have g2 := hzf' 2
      have g3 := hzf' 3
      have g4 := hzf' 4
      have g5 := hzf' 5
      have hN1 := lt_of_heap hz1
      cases hgo : getO (s.M k) oid with
      | none =>
        have HGO := hide hgo
        clear hgo hf1 hz1 hfw hzf'
        rw [show ordR none = .tuple #[.agg #[.int .i64 0, .int .i64 0, .int .i64 0, .int .i64 0, .int .i64 0, .int .i64 0], .bool false] from rfl]
        go_wp2
        go_roundw
        case rel => exact ⟨k + 1, by omega, by go_num, (unhide HF1).1.alloc _, Fr.heap (S := No) ((Fr.refl _ _).alloc _) (unhide HF1).2 id, by show _ = _; rw [getTo, unhide HNO]; exact unhide HGO⟩
        case measure => simp [intOf]; omega
      | some x =>
        have hr : getAt s oid = some x := getTo_ge (by omega : k + 1 ≤ 8) (by rw [getTo, unhide HNO]; exact hgo)
        have HR := hide hr
        clear hgo hf1 hz1 hfw hzf' hr
        rw [show ordR (some x) = .tuple #[.agg #[.int .i64 x.id, .int .i64 x.trader, .int .i64 x.book, .int .i64 x.side, .int .i64 x.price, .int .i64 x.opn], .bool true] from rfl]
        go_wp2
        have hWb := st6_heap (unhide HF1).2 (.int .i64 x.id) (.int .i64 x.trader) (.int .i64 x.book) (.int .i64 x.side) (.int .i64 x.price) (.int .i64 x.opn)
        have hWf := st6_fr (unhide HF1).1 (.inl (Nat.le_refl w.heap.size)) (.int .i64 x.id) (.int .i64 x.trader) (.int .i64 x.book) (.int .i64 x.side) (.int .i64 x.price) (.int .i64 x.opn)
        generalize World.setCell (World.setCell (World.setCell (World.setCell (World.setCell (World.setCell _ ⟨w.heap.size, 0, none⟩ _) ⟨w.heap.size, 1, none⟩ _) ⟨w.heap.size, 2, none⟩ _) ⟨w.heap.size, 3, none⟩ _) ⟨w.heap.size, 4, none⟩ _) ⟨w.heap.size, 5, none⟩ _ = W at hWb hWf ⊢
        have hWb2 := Fr.heap ((Fr.refl No W).alloc (.cells #[.int .i64 x.id, .int .i64 x.trader, .int .i64 x.book, .int .i64 x.side, .int .i64 x.price, .int .i64 x.opn] 95)) hWb id
        have hWf2 := hWf.alloc (.cells #[.int .i64 x.id, .int .i64 x.trader, .int .i64 x.book, .int .i64 x.side, .int .i64 x.price, .int .i64 x.opn] 95)
        generalize World.alloc W _ = W2 at hWb2 hWf2 ⊢
        obtain ⟨q0, q1, q2, q3, q4, q5, _⟩ := box6 hWb2
        rw [unhide HR]
        exact bodyPost_ret (v := .tuple #[x.val, .bool true]) (by simp [results, Tryz.results90, go_sem, Ord.val, q0, q1, q2, q3, q4, q5]) rfl ⟨rfl, hWf2⟩
    · have hr : getAt s oid = none := by
        have e : k = 8 := by omega
        subst e
        exact hno
      have HR := hide hr
      have HF := hide (And.intro hfr hz)
      obtain ⟨z0, z1, z2, z3, z4, z5, hzf⟩ := box6 hz
      have f0 := hzf 0
      have f1 := hzf 1
      have f2 := hzf 2
      have f3 := hzf 3
      have f4 := hzf 4
      have f5 := hzf 5
      clear hfr hz hno hr hzf
      go_wp2
      have hWb := st6_heap (unhide HF).2 (.int .i64 0) (.int .i64 0) (.int .i64 0) (.int .i64 0) (.int .i64 0) (.int .i64 0)
      have hWf := st6_fr (unhide HF).1 (.inl (Nat.le_refl w.heap.size)) (.int .i64 0) (.int .i64 0) (.int .i64 0) (.int .i64 0) (.int .i64 0) (.int .i64 0)
      generalize World.setCell (World.setCell (World.setCell (World.setCell (World.setCell (World.setCell _ ⟨w.heap.size, 0, none⟩ _) ⟨w.heap.size, 1, none⟩ _) ⟨w.heap.size, 2, none⟩ _) ⟨w.heap.size, 3, none⟩ _) ⟨w.heap.size, 4, none⟩ _) ⟨w.heap.size, 5, none⟩ _ = W at hWb hWf ⊢
      obtain ⟨q0, q1, q2, q3, q4, q5, _⟩ := box6 hWb
      rw [unhide HR]
      exact bodyPost_ret (v := .tuple #[zOrd, .bool false]) (by simp [results, Tryz.results90, go_sem, zOrd, q0, q1, q2, q3, q4, q5]) rfl ⟨rfl, hWf⟩
set_option maxHeartbeats 8000000 in
set_option maxRecDepth 20000 in
theorem dRestingOf_any (bx : Nat) (bb : Nat → Nat) (v : Nat → Nat → Value) (ro : Nat → Nat) (s : St) (t oid : Int) (w : World) (h : PitAt w bx bb v ro s) :
    Calls Tryz.prog 93 #[.pointer (some ⟨bx, 0, none⟩), .int .i64 t, .int .i64 oid] w fun e w' => e = .returned (ordR (getOf s t oid)) ∧ Fr No w w' := by
  have HP := hide h
  clear h
  go_enter Tryz.func93, Tryz.ntmps93
  go_wp2_with fail
  have hz0 : (w.alloc (.cells #[.int .i64 0, .int .i64 0, .int .i64 0, .int .i64 0, .int .i64 0, .int .i64 0] 95)).heap[w.heap.size]? = some (.cells #[.int .i64 0, .int .i64 0, .int .i64 0, .int .i64 0, .int .i64 0, .int .i64 0] 95 (0, 0)) := heap_alloc_new w _
  refine (dResting_any bx bb v ro s oid _ ((unhide HP).no ((Fr.refl _ _).alloc _))).mono ?_
  rintro e w1 ⟨rfl, hf1⟩
  have hz1 := hf1.heap hz0 id
  have hfw := ((Fr.refl No w).alloc _).quiet hf1
  have HF1 := hide (And.intro hfw hz1)
  obtain ⟨z0, z1, z2, z3, z4, z5, hzf⟩ := box6 hz1
  have g0 := hzf 0
  have g1 := hzf 1
  have g2 := hzf 2
  have g3 := hzf 3
  have g4 := hzf 4
  have g5 := hzf 5
  have hN1 := lt_of_heap hz1
  clear hz0 hf1 hz1 hfw hzf
  cases hro : getAt s oid with
  | none =>
    have HR : Hid (getOf s t oid = none) := by show _ = _; simp [getOf, hro]
    clear hro
    rw [show ordR none = .tuple #[.agg #[.int .i64 0, .int .i64 0, .int .i64 0, .int .i64 0, .int .i64 0, .int .i64 0], .bool false] from rfl]
    go_wp2
    have hWb := st6_heap (unhide HF1).2 (.int .i64 0) (.int .i64 0) (.int .i64 0) (.int .i64 0) (.int .i64 0) (.int .i64 0)
    have hWf := st6_fr (unhide HF1).1 (.inl (Nat.le_refl w.heap.size)) (.int .i64 0) (.int .i64 0) (.int .i64 0) (.int .i64 0) (.int .i64 0) (.int .i64 0)
    generalize World.setCell (World.setCell (World.setCell (World.setCell (World.setCell (World.setCell _ ⟨w.heap.size, 0, none⟩ _) ⟨w.heap.size, 1, none⟩ _) ⟨w.heap.size, 2, none⟩ _) ⟨w.heap.size, 3, none⟩ _) ⟨w.heap.size, 4, none⟩ _) ⟨w.heap.size, 5, none⟩ _ = W at hWb hWf ⊢
    have hWb2 := Fr.heap ((Fr.refl No W).alloc (.cells #[.int .i64 0, .int .i64 0, .int .i64 0, .int .i64 0, .int .i64 0, .int .i64 0] 95)) hWb id
    have hWf2 := hWf.alloc (.cells #[.int .i64 0, .int .i64 0, .int .i64 0, .int .i64 0, .int .i64 0, .int .i64 0] 95)
    generalize World.alloc W _ = W2 at hWb2 hWf2 ⊢
    obtain ⟨q0, q1, q2, q3, q4, q5, _⟩ := box6 hWb2
    rw [unhide HR]
    exact bodyPost_ret (v := .tuple #[zOrd, .bool false]) (by simp [results, Tryz.results93, go_sem, zOrd, q0, q1, q2, q3, q4, q5]) rfl ⟨rfl, hWf2⟩
  | some x =>
    by_cases ht : x.trader = t
    · have HR : Hid (getOf s t oid = some x) := by show _ = _; simp [getOf, hro, ht]
      have hb : (x.trader != t) = false := by simpa using ht
      clear hro ht
      rw [show ordR (some x) = .tuple #[.agg #[.int .i64 x.id, .int .i64 x.trader, .int .i64 x.book, .int .i64 x.side, .int .i64 x.price, .int .i64 x.opn], .bool true] from rfl]
      go_wp2
      have hWb := st6_heap (unhide HF1).2 (.int .i64 x.id) (.int .i64 x.trader) (.int .i64 x.book) (.int .i64 x.side) (.int .i64 x.price) (.int .i64 x.opn)
      have hWf := st6_fr (unhide HF1).1 (.inl (Nat.le_refl w.heap.size)) (.int .i64 x.id) (.int .i64 x.trader) (.int .i64 x.book) (.int .i64 x.side) (.int .i64 x.price) (.int .i64 x.opn)
      generalize World.setCell (World.setCell (World.setCell (World.setCell (World.setCell (World.setCell _ ⟨w.heap.size, 0, none⟩ _) ⟨w.heap.size, 1, none⟩ _) ⟨w.heap.size, 2, none⟩ _) ⟨w.heap.size, 3, none⟩ _) ⟨w.heap.size, 4, none⟩ _) ⟨w.heap.size, 5, none⟩ _ = W at hWb hWf ⊢
      have hWb2 := Fr.heap ((Fr.refl No W).alloc (.cells #[.int .i64 x.id, .int .i64 x.trader, .int .i64 x.book, .int .i64 x.side, .int .i64 x.price, .int .i64 x.opn] 95)) hWb id
      have hWf2 := hWf.alloc (.cells #[.int .i64 x.id, .int .i64 x.trader, .int .i64 x.book, .int .i64 x.side, .int .i64 x.price, .int .i64 x.opn] 95)
      generalize World.alloc W _ = W2 at hWb2 hWf2 ⊢
      obtain ⟨q0, q1, q2, q3, q4, q5, _⟩ := box6 hWb2
      rw [unhide HR]
      exact bodyPost_ret (v := .tuple #[x.val, .bool true]) (by simp [results, Tryz.results93, go_sem, Ord.val, q0, q1, q2, q3, q4, q5]) rfl ⟨rfl, hWf2⟩
    · have HR : Hid (getOf s t oid = none) := by show _ = _; simp [getOf, hro, ht]
      have hb : (x.trader != t) = true := by simpa using ht
      clear hro ht
      rw [show ordR (some x) = .tuple #[.agg #[.int .i64 x.id, .int .i64 x.trader, .int .i64 x.book, .int .i64 x.side, .int .i64 x.price, .int .i64 x.opn], .bool true] from rfl]
      go_wp2
      have hWb := st6_heap (unhide HF1).2 (.int .i64 0) (.int .i64 0) (.int .i64 0) (.int .i64 0) (.int .i64 0) (.int .i64 0)
      have hWf := st6_fr (unhide HF1).1 (.inl (Nat.le_refl w.heap.size)) (.int .i64 0) (.int .i64 0) (.int .i64 0) (.int .i64 0) (.int .i64 0) (.int .i64 0)
      generalize World.setCell (World.setCell (World.setCell (World.setCell (World.setCell (World.setCell _ ⟨w.heap.size, 0, none⟩ _) ⟨w.heap.size, 1, none⟩ _) ⟨w.heap.size, 2, none⟩ _) ⟨w.heap.size, 3, none⟩ _) ⟨w.heap.size, 4, none⟩ _) ⟨w.heap.size, 5, none⟩ _ = W at hWb hWf ⊢
      have hWb2 := Fr.heap ((Fr.refl No W).alloc (.cells #[.int .i64 x.id, .int .i64 x.trader, .int .i64 x.book, .int .i64 x.side, .int .i64 x.price, .int .i64 x.opn] 95)) hWb id
      have hWf2 := hWf.alloc (.cells #[.int .i64 x.id, .int .i64 x.trader, .int .i64 x.book, .int .i64 x.side, .int .i64 x.price, .int .i64 x.opn] 95)
      generalize World.alloc W _ = W2 at hWb2 hWf2 ⊢
      obtain ⟨q0, q1, q2, q3, q4, q5, _⟩ := box6 hWb2
      rw [unhide HR]
      exact bodyPost_ret (v := .tuple #[zOrd, .bool false]) (by simp [results, Tryz.results93, go_sem, zOrd, q0, q1, q2, q3, q4, q5]) rfl ⟨rfl, hWf2⟩

/-- What Order answers. -/
def orderS : Option Ord → Value
  | some x => .tuple #[x.val, .int .i64 0]
  | none => .tuple #[zOrd, .int .i64 4]

set_option maxHeartbeats 8000000 in
set_option maxRecDepth 20000 in
theorem pOrder_any (bx : Nat) (bb : Nat → Nat) (v : Nat → Nat → Value) (ro : Nat → Nat) (s : St) (oid : Int) (w : World) (h : PitAt w bx bb v ro s) :
    Calls Tryz.prog 68 #[.pointer (some ⟨bx, 0, none⟩), .int .i64 oid] w fun e w' => e = .returned (orderS (getAt s oid)) ∧ Fr No w w' := by
  have HP := hide h
  clear h
  go_enter Tryz.func68, Tryz.ntmps68
  go_wp2_with (go_at_call 22; refine (ready_any bx bb v ro s _ ((unhide HP).no ((Fr.refl _ _).alloc _))).mono ?_; rintro e w0 ⟨rfl, rfl⟩)
  have hz0 : (w.alloc (.cells #[.int .i64 0, .int .i64 0, .int .i64 0, .int .i64 0, .int .i64 0, .int .i64 0] 95)).heap[w.heap.size]? = some (.cells #[.int .i64 0, .int .i64 0, .int .i64 0, .int .i64 0, .int .i64 0, .int .i64 0] 95 (0, 0)) := heap_alloc_new w _
  refine (dResting_any bx bb v ro s oid _ ((unhide HP).no ((Fr.refl _ _).alloc _))).mono ?_
  rintro e w1 ⟨rfl, hf1⟩
  have hz1 := hf1.heap hz0 id
  have hfw := ((Fr.refl No w).alloc _).quiet hf1
  have HF1 := hide (And.intro hfw hz1)
  obtain ⟨z0, z1, z2, z3, z4, z5, hzf⟩ := box6 hz1
  have g0 := hzf 0
  have g1 := hzf 1
  have g2 := hzf 2
  have g3 := hzf 3
  have g4 := hzf 4
  have g5 := hzf 5
  have hN1 := lt_of_heap hz1
  clear hz0 hf1 hz1 hfw hzf
  cases hro : getAt s oid with
  | none =>
    have HR : Hid (orderS (getAt s oid) = .tuple #[zOrd, .int .i64 4]) := by show _ = _; rw [hro]; rfl
    clear hro
    rw [show ordR none = .tuple #[.agg #[.int .i64 0, .int .i64 0, .int .i64 0, .int .i64 0, .int .i64 0, .int .i64 0], .bool false] from rfl]
    go_wp2
    have hWb := st6_heap (unhide HF1).2 (.int .i64 0) (.int .i64 0) (.int .i64 0) (.int .i64 0) (.int .i64 0) (.int .i64 0)
    have hWf := st6_fr (unhide HF1).1 (.inl (Nat.le_refl w.heap.size)) (.int .i64 0) (.int .i64 0) (.int .i64 0) (.int .i64 0) (.int .i64 0) (.int .i64 0)
    generalize World.setCell (World.setCell (World.setCell (World.setCell (World.setCell (World.setCell _ ⟨w.heap.size, 0, none⟩ _) ⟨w.heap.size, 1, none⟩ _) ⟨w.heap.size, 2, none⟩ _) ⟨w.heap.size, 3, none⟩ _) ⟨w.heap.size, 4, none⟩ _) ⟨w.heap.size, 5, none⟩ _ = W at hWb hWf ⊢
    have hWb2 := Fr.heap ((Fr.refl No W).alloc (.cells #[.int .i64 0, .int .i64 0, .int .i64 0, .int .i64 0, .int .i64 0, .int .i64 0] 95)) hWb id
    have hWf2 := hWf.alloc (.cells #[.int .i64 0, .int .i64 0, .int .i64 0, .int .i64 0, .int .i64 0, .int .i64 0] 95)
    generalize World.alloc W _ = W2 at hWb2 hWf2 ⊢
    obtain ⟨q0, q1, q2, q3, q4, q5, _⟩ := box6 hWb2
    rw [unhide HR]
    exact bodyPost_ret (v := .tuple #[zOrd, .int .i64 4]) (by simp [results, Tryz.results68, go_sem, zOrd, q0, q1, q2, q3, q4, q5]) rfl ⟨rfl, hWf2⟩
  | some x =>
    have HR : Hid (orderS (getAt s oid) = .tuple #[x.val, .int .i64 0]) := by show _ = _; rw [hro]; rfl
    clear hro
    rw [show ordR (some x) = .tuple #[.agg #[.int .i64 x.id, .int .i64 x.trader, .int .i64 x.book, .int .i64 x.side, .int .i64 x.price, .int .i64 x.opn], .bool true] from rfl]
    go_wp2
    have hWb := st6_heap (unhide HF1).2 (.int .i64 x.id) (.int .i64 x.trader) (.int .i64 x.book) (.int .i64 x.side) (.int .i64 x.price) (.int .i64 x.opn)
    have hWf := st6_fr (unhide HF1).1 (.inl (Nat.le_refl w.heap.size)) (.int .i64 x.id) (.int .i64 x.trader) (.int .i64 x.book) (.int .i64 x.side) (.int .i64 x.price) (.int .i64 x.opn)
    generalize World.setCell (World.setCell (World.setCell (World.setCell (World.setCell (World.setCell _ ⟨w.heap.size, 0, none⟩ _) ⟨w.heap.size, 1, none⟩ _) ⟨w.heap.size, 2, none⟩ _) ⟨w.heap.size, 3, none⟩ _) ⟨w.heap.size, 4, none⟩ _) ⟨w.heap.size, 5, none⟩ _ = W at hWb hWf ⊢
    have hWb2 := Fr.heap ((Fr.refl No W).alloc (.cells #[.int .i64 x.id, .int .i64 x.trader, .int .i64 x.book, .int .i64 x.side, .int .i64 x.price, .int .i64 x.opn] 95)) hWb id
    have hWf2 := hWf.alloc (.cells #[.int .i64 x.id, .int .i64 x.trader, .int .i64 x.book, .int .i64 x.side, .int .i64 x.price, .int .i64 x.opn] 95)
    generalize World.alloc W _ = W2 at hWb2 hWf2 ⊢
    obtain ⟨q0, q1, q2, q3, q4, q5, _⟩ := box6 hWb2
    rw [unhide HR]
    exact bodyPost_ret (v := .tuple #[x.val, .int .i64 0]) (by simp [results, Tryz.results68, go_sem, Ord.val, q0, q1, q2, q3, q4, q5]) rfl ⟨rfl, hWf2⟩
end Go.Proofs.YtigpgnjgmaoejaaGreat
