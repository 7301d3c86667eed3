/- Contract of looks: all lists that came out hold what their owner wrote. Condition: the book lies in memory, the lengths are within bounds. -/
import Derived.Test.YtigpgnjgmaoejaaGreatLawAC
import Derived.Deep.LoopGhost
import Derived.Deep.RegionHeld3
namespace Go.Proofs.YtigpgnjgmaoejaaGreat
open Go.RowKit

theorem box7' {W : World} {b : Nat} {T : TypeId} {x0 x1 x2 x3 x4 x5 x6 : Value} (h : W.heap[b]? = some (.cells #[x0, x1, x2, x3, x4, x5, x6] T (0, 0))) :
    W.cell? ⟨b, 0, none⟩ = some x0 ∧ W.cell? ⟨b, 1, none⟩ = some x1 ∧ W.cell? ⟨b, 2, none⟩ = some x2 ∧ W.cell? ⟨b, 3, none⟩ = some x3 ∧ W.cell? ⟨b, 4, none⟩ = some x4 ∧ W.cell? ⟨b, 6, none⟩ = some x6 :=
  ⟨cell_heap h 0, cell_heap h 1, cell_heap h 2, cell_heap h 3, cell_heap h 4, cell_heap h 6⟩

theorem own_max {w : World} {base : Nat} {e : TypeId} {s : Nat} {v : Value} {n : Nat} {xs : List Value} (h : w.ownsRow base e s v n xs) : n ≤ 9223372036854775807 := by
  rcases h.2 with ⟨_, rfl⟩ | ⟨_, _, _, _, _, _, hn, hm, _⟩
  · omega
  · simp only [maxLen] at hm; omega

/-- The cell at a place of a list of single cells. -/
theorem cs_at {w : World} {base : Nat} {e : TypeId} {a : Option Addr} {n cap : Nat} {xs : List Value} (h : Cs w base e (.slice a n cap) xs) (i : Nat) (hi : i < xs.length) :
    ∃ g, a = some ⟨g, 0, none⟩ ∧ g < w.heap.size ∧ w.cell? ⟨g, i, none⟩ = some xs[i] := by
  rcases h.2 with ⟨_, h0⟩ | ⟨g, cap', cur, hv, hb, hg, hn, _, hcs, ht⟩
  · omega
  · simp only [Value.slice.injEq] at hv
    obtain ⟨rfl, rfl, rfl⟩ := hv
    refine ⟨g, rfl, lt_of_heap hg, ?_⟩
    rw [cell_heap hg]
    have h1 : xs[i]? = some xs[i] := List.getElem?_eq_getElem hi
    generalize xs[i] = u at h1 ⊢
    rw [← ht, List.getElem?_take] at h1
    split at h1
    · simpa using h1
    · cases h1

set_option maxRecDepth 100000 in
set_option maxHeartbeats 4000000 in
theorem looks_any (bb : Nat) (ro : Nat → Nat) (E L : List (Value × Int)) (nx : Int) (ve vm vl vn : Value) (w : World) (hb : BookAt w bb ro E L nx ve vm vl vn) (hE : E.length ≤ 5000000000000) (hL : L.length ≤ 5000000000000) :
    Calls Tryz.prog 19 #[.pointer (some ⟨bb, 0, none⟩)] w fun e w' => e = .returned (.bool true) ∧ Fr No w w' := by
  obtain ⟨ae, ce, rfl, _⟩ := own_form hb.oe
  obtain ⟨am, cm, rfl, _⟩ := own_form hb.om
  obtain ⟨al, cl, rfl, _⟩ := own_form hb.ol
  obtain ⟨an, cn, rfl, _⟩ := own_form hb.on
  simp only [List.length_map] at hb
  have hcell : ∀ wr, Fr No w wr → BookAt wr bb ro E L nx (.slice ae E.length ce) (.slice am E.length cm) (.slice al L.length cl) (.slice an L.length cn) := fun wr hf => hb.fr hf (fun _ _ => id)
  have HB := hide hcell
  clear hb hcell
  go_enter Tryz.func19, Tryz.ntmps19
  go_wp2
  go_loopg [3] E.length (fun f i wr => ∃ k : Nat, k ≤ E.length ∧ f = E.length - k ∧ i = .int .i64 k ∧ Fr No w wr)
  case atStart => exact ⟨0, Nat.zero_le _, rfl, rfl, Fr.refl _ _⟩
  case round =>
    obtain ⟨k, hk, hgk, rfl, hfr⟩ := hrel
    have hB := unhide HB wr hfr
    obtain ⟨hc0, hc1, hc2, hc3, hc4, hc6⟩ := box7' hB.blk
    have hbb := lt_of_heap hB.blk
    by_cases hlt : k < E.length
    · obtain ⟨ge, hae, hge, hcev⟩ := cs_at hB.oe k (by simpa using hlt)
      obtain ⟨gm, ham, hgm, hcmv⟩ := cs_at hB.om k (by simpa using hlt)
      subst hae
      subst ham
      simp only [List.getElem_map] at hcev hcmv
      obtain ⟨nn, hes⟩ := hB.ees E[k] (List.getElem_mem hlt)
      obtain ⟨a1, c1, hx1, _⟩ := own_form hes
      have hnn := own_max hes
      generalize hxm : E[k].2 = mk at *
      rw [hx1] at hcev hes
      simp only [List.length_replicate] at hcev hes hnn
      have HH := hide (And.intro hfr (And.intro hes hgk))
      have hkE : decide ((k : Int) < (E.length : Int)) = true := by simp; omega
      have hkI : (k : Int) < (E.length : Int) := by omega
      clear hfr hB hes hgk hx1 hxm
      go_wp2
      go_region_held3 (fun w' : World => w'.cell? ⟨bb, 1, none⟩ = some (.slice (some ⟨gm, 0, none⟩) E.length cm) ∧ w'.cell? ⟨gm, k, none⟩ = some (.int .i64 mk)) (go_keep) (fail)
      go_wp2
      generalize hW : World.drew (World.alloc wr _) = W
      have hWf : Fr No wr W := by rw [← hW]; exact ((Fr.refl _ _).alloc _).drew
      have hWx : W.heap[wr.heap.size]? = some (.cells #[.int .i64 mk, .int .i64 mk, .int .i64 0, .int .i64 0, .int .i64 0, .int .i64 0] 42 (0, 0)) := by
        rw [← hW]; exact heap_alloc_new wr _
      obtain ⟨hx0, hx1, hx2, hx3, hx4, hx5, _⟩ := box6 hWx
      have hd0 := (hWf.below.cell (p := ⟨bb, 0, none⟩) hbb).trans hc0
      have hdk := (hWf.below.cell (p := ⟨ge, k, none⟩) hge).trans hcev
      have hesW : Es W 0 (.slice a1 nn c1) (List.replicate nn (markE mk)) := own_fr (unhide HH).2.1 hWf (fun _ _ => id)
      have HW := hide (And.intro hWf hesW)
      have hbW : bb < W.heap.size := Nat.lt_of_lt_of_le hbb hWf.size
      clear hW hWf hWx hesW hc0 hc1 hc2 hc3 hc4 hc6 hcev hcmv
      go_loopg [5] nn (fun f i w2 => ∃ j : Nat, ∃ m, j ≤ nn ∧ f = nn - j ∧ i = .int .i64 j ∧ w2 = W.drewN m)
      case atStart => exact ⟨0, 0, Nat.zero_le _, rfl, rfl, rfl⟩
      case round =>
        obtain ⟨j, m, hj, hgj, rfl, rfl⟩ := hrel
        have HGJ := hide hgj
        clear hgj
        by_cases hlj : j < nn
        · obtain ⟨g9, rfl, hg9, _, e0, e1, e2, e3, e4, e5, _⟩ := es_at (unhide HW).2 j (by simpa using hlj)
          simp only [List.getElem_replicate, markE] at e0 e1 e2 e3 e4 e5
          have hjI : (j : Int) < (nn : Int) := by omega
          have hjE : decide ((j : Int) < (nn : Int)) = true := by simp; omega
          go_wp2
          go_quiet (fail)
          go_wp2
          go_roundg (nn - (j + 1))
          case rel => exact ⟨j + 1, m + nq, by omega, rfl, by go_num, rfl⟩
          case measure => have := unhide HGJ; omega
        · go_wp2
          go_roundg (E.length - (k + 1))
          case rel => exact ⟨k + 1, by omega, rfl, by go_num, ((unhide HH).1.quiet (unhide HW).1).drewN _⟩
          case measure => have := (unhide HH).2.2; omega
    · go_wp2
      refine wp_loop_rounds 1 ?_
      rw [rounds_succ]
      go_wp2
      have HF0 := hide hfr
      clear hB hc0 hc1 hc2 hc3 hc4 hc6 hfr hgk hbb
      go_loopg [9] L.length (fun f i wr => ∃ k : Nat, k ≤ L.length ∧ f = L.length - k ∧ i = .int .i64 k ∧ Fr No w wr)
      case atStart => exact ⟨0, Nat.zero_le _, rfl, rfl, unhide HF0⟩
      case round =>
        obtain ⟨k, hk, hgk, rfl, hfr⟩ := hrel
        have hB := unhide HB wr hfr
        obtain ⟨hc0, hc1, hc2, hc3, hc4, hc6⟩ := box7' hB.blk
        have hbb := lt_of_heap hB.blk
        by_cases hlt : k < L.length
        · obtain ⟨ge, hae, hge, hcev⟩ := cs_at hB.ol k (by simpa using hlt)
          obtain ⟨gm, ham, hgm, hcmv⟩ := cs_at hB.on k (by simpa using hlt)
          subst hae
          subst ham
          simp only [List.getElem_map] at hcev hcmv
          obtain ⟨nn, hes⟩ := hB.lls L[k] (List.getElem_mem hlt)
          obtain ⟨a1, c1, hx1, _⟩ := own_form hes
          have hnn := own_max hes
          generalize hxm : L[k].2 = mk at *
          rw [hx1] at hcev hes
          simp only [List.length_replicate] at hcev hes hnn
          have HH := hide (And.intro hfr (And.intro hes hgk))
          have hkE : decide ((k : Int) < (L.length : Int)) = true := by simp; omega
          have hkI : (k : Int) < (L.length : Int) := by omega
          clear hfr hB hes hgk hx1 hxm
          go_wp2
          go_region_held3 (fun w' : World => w'.cell? ⟨bb, 3, none⟩ = some (.slice (some ⟨gm, 0, none⟩) L.length cn) ∧ w'.cell? ⟨gm, k, none⟩ = some (.int .i64 mk)) (go_keep) (fail)
          go_wp2
          generalize hW : World.drew (World.alloc wr _) = W
          have hWf : Fr No wr W := by rw [← hW]; exact ((Fr.refl _ _).alloc _).drew
          have hWx : W.heap[wr.heap.size]? = some (.cells #[.int .i64 mk, .int .i64 mk, .int .i64 0] 97 (0, 0)) := by
            rw [← hW]; exact heap_alloc_new wr _
          have hx0 := cell_heap hWx 0
          have hx1 := cell_heap hWx 1
          have hx2 := cell_heap hWx 2
          simp at hx0 hx1 hx2
          have hd0 := (hWf.below.cell (p := ⟨bb, 2, none⟩) hbb).trans hc2
          have hdk := (hWf.below.cell (p := ⟨ge, k, none⟩) hge).trans hcev
          have hesW : Ls W 0 (.slice a1 nn c1) (List.replicate nn (markL mk)) := own_fr (unhide HH).2.1 hWf (fun _ _ => id)
          have HW := hide (And.intro hWf hesW)
          have hbW : bb < W.heap.size := Nat.lt_of_lt_of_le hbb hWf.size
          clear hW hWf hWx hesW hc0 hc1 hc2 hc3 hc4 hc6 hcev hcmv
          go_loopg [11] nn (fun f i w2 => ∃ j : Nat, ∃ m, j ≤ nn ∧ f = nn - j ∧ i = .int .i64 j ∧ w2 = W.drewN m)
          case atStart => exact ⟨0, 0, Nat.zero_le _, rfl, rfl, rfl⟩
          case round =>
            obtain ⟨j, m, hj, hgj, rfl, rfl⟩ := hrel
            have HGJ := hide hgj
            clear hgj
            by_cases hlj : j < nn
            · obtain ⟨g9, rfl, hg9, _, e0, e1, e2, _⟩ := ls_at (unhide HW).2 j (by simpa using hlj)
              simp only [List.getElem_replicate, markL] at e0 e1 e2
              have hjI : (j : Int) < (nn : Int) := by omega
              have hjE : decide ((j : Int) < (nn : Int)) = true := by simp; omega
              go_wp2
              go_quiet (fail)
              go_wp2
              go_roundg (nn - (j + 1))
              case rel => exact ⟨j + 1, m + nq, by omega, rfl, by go_num, rfl⟩
              case measure => have := unhide HGJ; omega
            · go_wp2
              go_roundg (L.length - (k + 1))
              case rel => exact ⟨k + 1, by omega, rfl, by go_num, ((unhide HH).1.quiet (unhide HW).1).drewN _⟩
              case measure => have := (unhide HH).2.2; omega
        · have HFF := hide hfr
          clear hB hfr hgk
          go_wp2
          go_ret
          exact ⟨rfl, unhide HFF⟩
end Go.Proofs.YtigpgnjgmaoejaaGreat
