/- Contract of the document's takes in a book that gathers. Conditions: the pit lies in memory, fewer than 100000 orders rest, the order's numbers are such, the book does not trade, the kind is Rest. -/
import Derived.Test.YtigpgnjgmaoejaaGreatRefCD
import Derived.Deep.RegionHeld3
namespace Go.Proofs.YtigpgnjgmaoejaaGreat
open Go.RowKit

theorem own_eq {g n c g' : Nat} (h : (Value.slice (some ⟨g, 0, none⟩) n c).ownBlock = some g') : g' = g := by
  simp only [Value.ownBlock, Option.some.injEq] at h; exact h.symm
theorem es_newAt {w : World} (x : Ev) {b base : Nat} (hb : b = w.heap.size) (hs : base ≤ w.heap.size) : Es (w.alloc (.cells x.cells.toArray 42)) base (.slice (some ⟨b, 0, none⟩) 1 1) [x] := by
  subst hb; exact es_new w x _ rfl base hs

/-- What a command on the document's pit may write. -/
def RefS (bp : Nat) (v : Value) : Nat → Prop := fun k => k = bp ∨ v.ownBlock = some k

/-- What a command leaves: the pit, as it is now, and a list of events in new memory. -/
structure RefOut (w w' : World) (bp : Nat) (v v' : Value) (s : Ref) (r : Value) (E : List Ev) : Prop where
  ref : RefAt w' bp v' s
  fr : Fr (RefS bp v) w w'
  new : ∀ g, v'.ownBlock = some g → v.ownBlock = some g ∨ w.heap.size ≤ g
  evs : Es w' w.heap.size r E
  apart : ∀ g, r.ownBlock = some g → v'.ownBlock ≠ some g

def takenE (id n : Int) : Ev := ⟨2, id, 0, 0, n, 0⟩
def restsE (id p n : Int) : Ev := ⟨4, id, 0, p, n, 0⟩

theorem box6 {W : World} {b : Nat} {T : TypeId} {x0 x1 x2 x3 x4 x5 : Value} (h : W.heap[b]? = some (.cells #[x0, x1, x2, x3, x4, x5] T (0, 0))) :
    W.cell? ⟨b, 0, none⟩ = some x0 ∧ W.cell? ⟨b, 1, none⟩ = some x1 ∧ W.cell? ⟨b, 2, none⟩ = some x2 ∧ W.cell? ⟨b, 3, none⟩ = some x3 ∧ W.cell? ⟨b, 4, none⟩ = some x4 ∧ W.cell? ⟨b, 5, none⟩ = some x5 ∧ ∀ k, W.frozen? ⟨b, k, none⟩ = false :=
  ⟨cell_heap h 0, cell_heap h 1, cell_heap h 2, cell_heap h 3, cell_heap h 4, cell_heap h 5, frozen_heap h⟩

theorem ref_store {w : World} {bp base : Nat} {v v' : Value} {s : Ref} {L' : List Ord} (h : w.heap[bp]? = some (.cells (refCells v s).toArray 57 (0, 0))) (ho : Os w base v' L') (hb : ∀ g, v'.ownBlock = some g → g ≠ bp) :
    RefAt (w.setCell ⟨bp, 0, none⟩ v') bp v' { s with L := L' } :=
  ⟨(heap_set h 0 v').trans rfl, own_base (own_fr ho ((Fr.refl (Is bp) _).setAt bp (.inr (Is.self bp)) 0 _) hb) (fun _ _ => Nat.zero_le _), fun e => hb _ e rfl⟩

set_option maxHeartbeats 2000000 in
set_option maxRecDepth 100000 in
theorem takes_gather (bp : Nat) (v : Value) (s : Ref) (x : Ord) (w : World) (hr : RefAt w bp v s) (hn : s.L.length < 100000)
    (nb : Nat) (hbk : x.book = nb) (hb1 : 1 ≤ nb) (hb8 : nb ≤ 8) (htr : s.tr nb = false) (hp : 1 ≤ x.price) (ho : 1 ≤ x.opn) :
    Calls Tryz.prog 117 #[.pointer (some ⟨bp, 0, none⟩), x.val, .int .i64 1] w fun e w' => ∃ r v', e = .returned r ∧
      RefOut w w' bp v v' { s with L := s.L ++ [x] } r [takenE x.id x.opn, restsE x.id x.price x.opn] := by
  obtain ⟨xid, xt, xb, xs, xp, xo⟩ := x
  simp only at hbk hp ho
  subst hbk
  unfold Ord.val
  simp only
  have hbp := hr.lt
  have hL := hr.cellL
  have hfz := hr.frozen 0
  have hT := hr.cellTr nb (by omega)
  rw [htr] at hT
  obtain ⟨a, cap, rfl⟩ := hr.form
  have HR := hide hr
  have hp0 : (xp == 0) = false := by simp; omega
  have ho0 : (xo == 0) = false := by simp; omega
  clear hr htr
  go_enter Tryz.func117, Tryz.ntmps117
  go_wp2
  go_quiet (fail)
  go_wp2
  refine wp_loop_rounds 1 ?_
  rw [rounds_succ]
  go_wp2
  generalize hW : World.drewN _ nq = W
  have hWf : Fr No w W := by rw [← hW]; exact (((Fr.refl _ _).alloc _).alloc _).drewN _
  have HWS : Hid (W.heap.size = w.heap.size + 2) := by show _ = _; rw [← hW]; simp
  have hWx : W.heap[w.heap.size]? = some (.cells #[.int .i64 xid, .int .i64 xt, .int .i64 nb, .int .i64 xs, .int .i64 xp, .int .i64 xo] 95 (0, 0)) := by rw [← hW]; exact (((Fr.refl No _).alloc _).drewN _).heap (heap_alloc_new w _) id
  have hWl : Es W w.heap.size (.slice (some ⟨w.heap.size + 1, 0, none⟩) 1 1) [takenE xid xo] := by
    rw [← hW]
    exact own_fr (es_newAt (takenE xid xo) (w := w.alloc _) (by simp) (by simp)) ((Fr.refl No _).drewN _) (fun _ _ => id)
  clear hW
  obtain ⟨hx0, hx1, hx2, hx3, hx4, hx5, _⟩ := box6 hWx
  have hr2 := (unhide HR).no hWf
  have hL2 := hr2.cellL
  have hfz2 := hr2.frozen 0
  have HR2 := hide hr2
  have HWF := hide hWf
  have hbW : bp < W.heap.size := by have := unhide HWS; omega
  have hbX : w.heap.size < W.heap.size := by have := unhide HWS; omega
  have hvlt : ∀ k, OwnS (.slice a s.L.length cap) k → k < w.heap.size := fun k hk => ((unhide HR).own.lt k hk).2
  have hvne : ∀ k, OwnS (.slice a s.L.length cap) k → k ≠ bp := fun k hk e => (unhide HR).apart (e ▸ hk)
  have HVL := hide hvlt
  have HVN := hide hvne
  have HWX := hide hWx
  have HWL := hide hWl
  clear hWf hL hfz hT hr2 hvlt hvne hWx hWl
  go_region_law (refine step_ord rfl (.tmp 145) (.tmp 147) rfl 0 _ s.L (own_fr (S := No) (unhide HR2).own (((Fr.refl _ _).drew).alloc _) (fun _ _ => id)) (by simp [Act.eval]) ⟨W.heap.size, 0, none⟩ 1 1 [⟨xid, xt, nb, xs, xp, xo⟩] (by simp [Act.eval]) rfl (by simp) (new_cells W.drew (Ord.cells ⟨xid, xt, nb, xs, xp, xo⟩) _) (by simp; omega) (Nat.zero_le _) ?_; intro g1 c1 w1 hown1 hfr1 hat1 hlt1; have hf1w : Fr (OwnS (.slice a s.L.length cap)) W w1 := Fr.same (by repeat (first | exact Fr.refl _ _ | refine Fr.drew ?_ | refine Fr.alloc ?_ _)) hfr1; have hb1 := hf1w.heap (unhide HR2).blk (fun e => unhide HVN bp e rfl); have hf1 := frozen_heap hb1 0; have hl1 : w1.cell? ⟨bp, 0, none⟩ = some (.slice a s.L.length cap) := cell_heap hb1 0; have HH := hide (And.intro hown1 (And.intro hf1w (And.intro hat1 hb1))); clear hown1 hf1w hat1 hb1 hfr1)
  all_goals
    obtain ⟨hown1, hf1w, hat1, hb1⟩ := unhide HH
    have hg1 : OwnS (.slice a s.L.length cap) g1 ∨ g1 = W.heap.size + 1 := by
      rcases hat1 with h | h
      · exact .inl h
      · exact .inr (by simpa using h)
    have hg2 : g1 < w.heap.size ∨ g1 = W.heap.size + 1 := hg1.imp (unhide HVL g1) id
    generalize hW2 : World.setCell w1 _ _ = W2
    have hr3 : RefAt W2 bp (.slice (some ⟨g1, 0, none⟩) (s.L.length + 1) c1) { s with L := s.L ++ [⟨xid, xt, nb, xs, xp, xo⟩] } := by
      rw [← hW2]
      refine ref_store hb1 hown1 ?_
      intro g hg he
      have hgg := own_eq hg
      subst hgg
      rcases hg1 with h | h
      · exact unhide HVN _ h he
      · omega
    have hf3 : Fr (RefS bp (.slice a s.L.length cap)) W W2 := by
      rw [← hW2]; exact Fr.setAt (S := RefS bp (.slice a s.L.length cap)) (hf1w.mono fun i _ hi => Or.inr hi) bp (.inr (Or.inl rfl)) 0 _
    have hxs : ¬ RefS bp (.slice a s.L.length cap) w.heap.size := by
      rintro (h | h)
      · omega
      · have := unhide HVL _ h; omega
    have hls : ¬ RefS bp (.slice a s.L.length cap) (w.heap.size + 1) := by
      rintro (h | h)
      · omega
      · have := unhide HVL _ h; omega
    have hl3 := own_fr (unhide HWL) hf3 (fun g hg => by have := own_eq hg; subst this; exact hls)
    obtain ⟨hy0, hy1, hy2, hy3, hy4, hy5, _⟩ := box6 (hf3.heap (unhide HWX) hxs)
    have hsz3 := hf3.size
    have hsz12 : w1.heap.size ≤ W2.heap.size := by rw [← hW2]; simp [World.setCell]
    have HF3 := hide (And.intro hf3 (And.intro hr3 hl3))
    clear HH hf3 hr3 hl3 hown1 hf1w hat1 hb1 hW2 hx0 hx1 hx2 hx3 hx4 hx5
    go_wp2_with (at_builtin; refine app_ev rfl (.tmp 151) (.tmp 159) rfl w.heap.size _ [takenE xid xo] (own_fr (unhide HF3).2.2 ((Fr.refl No _).alloc _) (fun _ _ => id)) rfl ⟨W2.heap.size, 0, none⟩ 1 1 [restsE xid xp xo] rfl rfl (by simp) (new_cells W2 (restsE xid xp xo).cells _) (by simp) (by simp; omega) ?_; intro g4 c4 w4 hown4 hfr4 hat4 hlt4)
    go_ret
    obtain ⟨hf3, hr3, hl3⟩ := unhide HF3
    have hWS := unhide HWS
    have hne4 : ∀ g, OwnS (.slice (some ⟨w.heap.size + 1, 0, none⟩) 1 1) g → g = w.heap.size + 1 := fun g hg => own_eq hg
    have hf34 : Fr (OwnS (.slice (some ⟨w.heap.size + 1, 0, none⟩) 1 1)) W2 w4 := Fr.same ((Fr.refl _ _).alloc _) hfr4
    refine ⟨_, _, rfl, ⟨hr3.fr hf34 (fun h => ?_) (fun g hg h => ?_), ?_, ?_, hown4, ?_⟩⟩
    · have := hne4 _ h; omega
    · have := own_eq hg; have := hne4 _ h; omega
    · exact ((unhide HWF).of_no.same (hf3)).trans hf34 fun i hi h => by have := hne4 _ h; omega
    · intro g hg
      have := own_eq hg
      subst this
      rcases hg1 with h | h
      · exact .inl h
      · right; omega
    · intro g hg hg'
      have e1 := own_eq hg
      have e2 := own_eq hg'
      rcases hat4 with h | h
      · have := hne4 _ h; omega
      · simp at h; omega
end Go.Proofs.YtigpgnjgmaoejaaGreat
