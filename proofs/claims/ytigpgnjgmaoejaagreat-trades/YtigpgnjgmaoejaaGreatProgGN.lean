/- Contracts of a book's Remove, Reopen, Of. Conditions: the book lies in memory, at most 1000 orders on a side, no number twice. -/
import Derived.Test.YtigpgnjgmaoejaaGreatProgEF
import Derived.Test.YtigpgnjgmaoejaaGreatRefHK
namespace Go.Proofs.YtigpgnjgmaoejaaGreat
open Go.RowKit

theorem PB.congr {w : World} {b bx : Nat} {tr : Bool} {td : Int} {v : Nat → Value} {M M' : Nat → List Ord} (h : PB w b bx tr td v M) (hM : ∀ j, j < 2 → M j = M' j) : PB w b bx tr td v M' :=
  ⟨h.blk, fun j hj => hM j hj ▸ h.own j hj, fun j hj => hM j hj ▸ h.len j hj, h.ab, h.ap⟩

/-- The book is another now. -/
structure BTo (w w' : World) (b bx : Nat) (tr : Bool) (td : Int) (v v' : Nat → Value) (M' : Nat → List Ord) : Prop where
  pb : PB w' b bx tr td v' M'
  fr : Fr (BS b v) w w'
  new : ∀ g, BS b v' g → BS b v g ∨ w.heap.size ≤ g

theorem PB.bto0 {w w' : World} {b bx : Nat} {tr : Bool} {td : Int} {v : Nat → Value} {M M2 : Nat → List Ord} {v' : Value} {M' : List Ord} (h : PB w b bx tr td v M) (hs : SideTo w w' b 3 (bookCells b bx tr td v) (v 0) v' M') (hl : M'.length ≤ 1000)
    (h0 : M' = M2 0) (h1 : M 1 = M2 1) : ∃ v', BTo w w' b bx tr td v v' M2 := by
  refine ⟨upd v 0 v', (h.to0 hs hl).congr (fun j hj => ?_), hs.fr.mono fun k _ e => e.imp id .inl, fun g hg => ?_⟩
  · match j, hj with
    | 0, _ => exact h0
    | 1, _ => exact h1
  · rcases hg with hg | hg | hg
    · exact .inl (.inl hg)
    · exact (hs.new g hg).imp (fun h => .inr (.inl h)) id
    · exact .inl (.inr (.inr hg))
theorem PB.bto1 {w w' : World} {b bx : Nat} {tr : Bool} {td : Int} {v : Nat → Value} {M M2 : Nat → List Ord} {v' : Value} {M' : List Ord} (h : PB w b bx tr td v M) (hs : SideTo w w' b 5 (bookCells b bx tr td v) (v 1) v' M') (hl : M'.length ≤ 1000)
    (h0 : M 0 = M2 0) (h1 : M' = M2 1) : ∃ v', BTo w w' b bx tr td v v' M2 := by
  refine ⟨upd v 1 v', (h.to1 hs hl).congr (fun j hj => ?_), hs.fr.mono fun k _ e => e.imp id .inr, fun g hg => ?_⟩
  · match j, hj with
    | 0, _ => exact h0
    | 1, _ => exact h1
  · rcases hg with hg | hg | hg
    · exact .inl (.inl hg)
    · exact .inl (.inr (.inl hg))
    · exact (hs.new g hg).imp (fun h => .inr (.inr h)) id

theorem Uniq.l {M : Nat → List Ord} (h : Uniq M) : ((M 0).map Ord.id).Nodup := (List.nodup_append.1 h).1
theorem Uniq.r {M : Nat → List Ord} (h : Uniq M) : ((M 1).map Ord.id).Nodup := (List.nodup_append.1 h).2.1
theorem Uniq.d {M : Nat → List Ord} (h : Uniq M) {i : Int} (h0 : i ∈ (M 0).map Ord.id) : i ∉ (M 1).map Ord.id := fun h1 => (List.nodup_append.1 h).2.2 i h0 i h1 rfl
theorem findO_idx {L : List Ord} {id : Int} {k : Nat} (h : findO L id = some k) (hk : k < L.length) : L[k].id = id := by
  unfold findO at h
  have := (List.findIdx?_eq_some_iff_getElem.1 h).2.1
  simpa using this
theorem findO_notin {L : List Ord} {id : Int} (h : findO L id = none) : id ∉ L.map Ord.id := by
  unfold findO at h
  rw [List.findIdx?_eq_none_iff] at h
  intro hm
  obtain ⟨o, ho, e⟩ := List.mem_map.1 hm
  have := h o ho
  simp [e] at this

set_option maxHeartbeats 1000000 in
theorem bRemove_any (b bx : Nat) (tr : Bool) (td : Int) (v : Nat → Value) (M : Nat → List Ord) (id : Int) (w : World) (h : PB w b bx tr td v M) (hu : Uniq M) :
    Calls Tryz.prog 94 #[.pointer (some ⟨b, 0, none⟩), .int .i64 id] w fun e w' => e = .returned (.tuple #[]) ∧ ∃ v', BTo w w' b bx tr td v v' (fun j => without id (M j)) := by
  have HB := hide h
  have hl0 := h.len 0 (by omega)
  have hl1 := h.len 1 (by omega)
  rcases findR_cases b M id with ⟨k, hk, hf, _, hr⟩ | ⟨hf0, k, hk, hf, _, hr⟩ | ⟨hf0, hf, _, hr⟩
  · have HR := hide hr
    have hid := findO_idx hf hk
    have hw0 : (M 0).eraseIdx k = without id (M 0) := by rw [erase_without hu.l hk, hid]
    have hw1 : M 1 = without id (M 1) := (without_self (hu.d (hid ▸ List.mem_map_of_mem (List.getElem_mem hk)))).symm
    have HW := hide (And.intro hw0 hw1)
    have hle := List.length_eraseIdx_le (M 0) k
    clear h hr hf hid hw0 hw1
    go_enter Tryz.func94, Tryz.ntmps94
    go_wp2_with (first
      | (go_at_call 136; refine (bFind_any b bx tr td v M id _ (unhide HB)).mono ?_; rintro e w1 ⟨rfl, rfl⟩; rw [unhide HR])
      | (go_at_call 137; refine (remove_any b 3 _ 1 (v 0) (M 0) k _ (unhide HB).side0 hk (by omega)).mono ?_; rintro e w2 ⟨rfl, v2, hs⟩; have HS2 := hide hs; clear hs))
    go_end0
    exact ⟨rfl, (unhide HB).bto0 (unhide HS2) (by omega) (unhide HW).1 (unhide HW).2⟩
  · have HR := hide hr
    have hid := findO_idx hf hk
    have hw1 : (M 1).eraseIdx k = without id (M 1) := by rw [erase_without hu.r hk, hid]
    have hw0 : M 0 = without id (M 0) := (without_self (findO_notin hf0)).symm
    have HW := hide (And.intro hw0 hw1)
    have hle := List.length_eraseIdx_le (M 1) k
    clear h hr hf hid hw0 hw1 hf0
    go_enter Tryz.func94, Tryz.ntmps94
    go_wp2_with (first
      | (go_at_call 136; refine (bFind_any b bx tr td v M id _ (unhide HB)).mono ?_; rintro e w1 ⟨rfl, rfl⟩; rw [unhide HR])
      | (go_at_call 137; refine (remove_any b 5 _ 2 (v 1) (M 1) k _ (unhide HB).side1 hk (by omega)).mono ?_; rintro e w2 ⟨rfl, v2, hs⟩; have HS2 := hide hs; clear hs))
    go_end0
    exact ⟨rfl, (unhide HB).bto1 (unhide HS2) (by omega) (unhide HW).1 (unhide HW).2⟩
  · have HR := hide hr
    have hw0 : M 0 = without id (M 0) := (without_self (findO_notin hf0)).symm
    have hw1 : M 1 = without id (M 1) := (without_self (findO_notin hf)).symm
    have HW := hide (And.intro hw0 hw1)
    clear h hr hf hf0 hw0 hw1
    go_enter Tryz.func94, Tryz.ntmps94
    go_wp2_with (go_at_call 136; refine (bFind_any b bx tr td v M id _ (unhide HB)).mono ?_; rintro e w1 ⟨rfl, rfl⟩; rw [unhide HR])
    go_end0
    exact ⟨rfl, v, (unhide HB).congr (fun j hj => by
      match j, hj with
      | 0, _ => exact (unhide HW).1
      | 1, _ => exact (unhide HW).2), Fr.refl _ _, fun g hg => .inl hg⟩
end Go.Proofs.YtigpgnjgmaoejaaGreat

/- Contract of a book's Reopen. Conditions: the book lies in memory, at most 1000 orders on a side, no number twice. -/
namespace Go.Proofs.YtigpgnjgmaoejaaGreat
open Go.RowKit

theorem reopen_own {w : World} {g n cap : Nat} {L : List Ord} {k : Nat} (h : Os w 0 (.slice (some ⟨g, 0, none⟩) n cap) L) (hk : k < L.length) (c : Int) :
    Os (w.setCell ⟨g, k * 6 + 5, none⟩ (.int .i64 c)) 0 (.slice (some ⟨g, 0, none⟩) n cap) (L.set k { L[k] with opn := c }) :=
  own_set Ord.len h k 5 hk (by omega) { L[k] with opn := c } (.int .i64 c) rfl

theorem PB.store0 {w : World} {b bx : Nat} {tr : Bool} {td : Int} {v : Nat → Value} {M M2 : Nat → List Ord} (h : PB w b bx tr td v M) {g cap k : Nat} (hv : v 0 = .slice (some ⟨g, 0, none⟩) (M 0).length cap) (hk : k < (M 0).length) (c : Int)
    (h0 : (M 0).set k { (M 0)[k] with opn := c } = M2 0) (h1 : M 1 = M2 1) : BTo w (w.setCell ⟨g, k * 6 + 5, none⟩ (.int .i64 c)) b bx tr td v v M2 := by
  have hg : OwnS (v 0) g := by rw [hv]; rfl
  have hf : Fr (Is g) w (w.setCell ⟨g, k * 6 + 5, none⟩ (.int .i64 c)) := (Fr.refl _ _).setAt g (.inr (Is.self g)) _ _
  refine ⟨⟨hf.heap h.blk (fun e => h.ab 0 (by omega) (by rw [show b = g from e]; exact hg)), fun j hj => ?_, fun j hj => ?_, h.ab, h.ap⟩, hf.mono fun j _ e => .inr (.inl (by rw [show j = g from e]; exact hg)), fun q hq => .inl hq⟩
  · match j, hj with
    | 0, _ =>
      have := h.own 0 (by omega)
      rw [hv] at this
      rw [← h0, hv]
      exact reopen_own this hk c
    | 1, _ => exact own_fr (h1 ▸ h.own 1 (by omega)) hf (fun q hq e => h.ap g hg (by rw [← show q = g from e]; exact hq))
  · match j, hj with
    | 0, _ => rw [← h0, List.length_set]; exact h.len 0 (by omega)
    | 1, _ => exact h1 ▸ h.len 1 (by omega)
theorem PB.store1 {w : World} {b bx : Nat} {tr : Bool} {td : Int} {v : Nat → Value} {M M2 : Nat → List Ord} (h : PB w b bx tr td v M) {g cap k : Nat} (hv : v 1 = .slice (some ⟨g, 0, none⟩) (M 1).length cap) (hk : k < (M 1).length) (c : Int)
    (h0 : M 0 = M2 0) (h1 : (M 1).set k { (M 1)[k] with opn := c } = M2 1) : BTo w (w.setCell ⟨g, k * 6 + 5, none⟩ (.int .i64 c)) b bx tr td v v M2 := by
  have hg : OwnS (v 1) g := by rw [hv]; rfl
  have hf : Fr (Is g) w (w.setCell ⟨g, k * 6 + 5, none⟩ (.int .i64 c)) := (Fr.refl _ _).setAt g (.inr (Is.self g)) _ _
  refine ⟨⟨hf.heap h.blk (fun e => h.ab 1 (by omega) (by rw [show b = g from e]; exact hg)), fun j hj => ?_, fun j hj => ?_, h.ab, h.ap⟩, hf.mono fun j _ e => .inr (.inr (by rw [show j = g from e]; exact hg)), fun q hq => .inl hq⟩
  · match j, hj with
    | 0, _ => exact own_fr (h0 ▸ h.own 0 (by omega)) hf (fun q hq e => h.ap q hq (by rw [show q = g from e]; exact hg))
    | 1, _ =>
      have := h.own 1 (by omega)
      rw [hv] at this
      rw [← h1, hv]
      exact reopen_own this hk c
  · match j, hj with
    | 0, _ => exact h0 ▸ h.len 0 (by omega)
    | 1, _ => rw [← h1, List.length_set]; exact h.len 1 (by omega)

set_option maxHeartbeats 1000000 in
theorem bReopen_any (b bx : Nat) (tr : Bool) (td : Int) (v : Nat → Value) (M : Nat → List Ord) (id c : Int) (w : World) (h : PB w b bx tr td v M) (hu : Uniq M) :
    Calls Tryz.prog 138 #[.pointer (some ⟨b, 0, none⟩), .int .i64 id, .int .i64 c] w fun e w' => e = .returned (.tuple #[]) ∧ ∃ v', BTo w w' b bx tr td v v' (fun j => (M j).map (reopen id c)) := by
  have HB := hide h
  have hl0 := h.len 0 (by omega)
  have hl1 := h.len 1 (by omega)
  rcases findR_cases b M id with ⟨k, hk, hf, _, hr⟩ | ⟨hf0, k, hk, hf, _, hr⟩ | ⟨hf0, hf, _, hr⟩
  · obtain ⟨a, cap, hv⟩ := h.side0.at_.form
    have hc := h.cells.2.2.1
    have ho := h.own 0 (by omega)
    rw [hv] at hc ho
    obtain ⟨g, rfl, hgl, _, c0, c1, c2, c3, c4, c5, hz⟩ := os_at ho k hk
    have hz5 := hz (k * 6 + 5)
    have hid := findO_idx hf hk
    have hw0 : (M 0).set k { (M 0)[k] with opn := c } = (M 0).map (reopen id c) := by rw [set_reopen hu.l hk, hid]
    have hw1 : M 1 = (M 1).map (reopen id c) := (map_reopen_self (hu.d (hid ▸ List.mem_map_of_mem (List.getElem_mem hk)))).symm
    have HR := hide (And.intro hr (And.intro hv (And.intro hw0 hw1)))
    have HK := hide hk
    clear h ho hr hv hw0 hw1 hid hf hz
    have hki : (k : Int) < ((M 0).length : Int) := by omega
    go_enter Tryz.func138, Tryz.ntmps138
    go_wp2_with (go_at_call 136; refine (bFind_any b bx tr td v M id _ (unhide HB)).mono ?_; rintro e w1 ⟨rfl, rfl⟩; rw [(unhide HR).1])
    go_end0
    exact ⟨rfl, v, (unhide HB).store0 (unhide HR).2.1 (unhide HK) c (unhide HR).2.2.1 (unhide HR).2.2.2⟩
  · obtain ⟨a, cap, hv⟩ := h.side1.at_.form
    have hc := h.cells.2.2.2
    have ho := h.own 1 (by omega)
    rw [hv] at hc ho
    obtain ⟨g, rfl, hgl, _, c0, c1, c2, c3, c4, c5, hz⟩ := os_at ho k hk
    have hz5 := hz (k * 6 + 5)
    have hid := findO_idx hf hk
    have hw1 : (M 1).set k { (M 1)[k] with opn := c } = (M 1).map (reopen id c) := by rw [set_reopen hu.r hk, hid]
    have hw0 : M 0 = (M 0).map (reopen id c) := (map_reopen_self (findO_notin hf0)).symm
    have HR := hide (And.intro hr (And.intro hv (And.intro hw0 hw1)))
    have HK := hide hk
    clear h ho hr hv hw0 hw1 hid hf hz hf0
    have hki : (k : Int) < ((M 1).length : Int) := by omega
    go_enter Tryz.func138, Tryz.ntmps138
    go_wp2_with (go_at_call 136; refine (bFind_any b bx tr td v M id _ (unhide HB)).mono ?_; rintro e w1 ⟨rfl, rfl⟩; rw [(unhide HR).1])
    go_end0
    exact ⟨rfl, v, (unhide HB).store1 (unhide HR).2.1 (unhide HK) c (unhide HR).2.2.1 (unhide HR).2.2.2⟩
  · have hw0 : M 0 = (M 0).map (reopen id c) := (map_reopen_self (findO_notin hf0)).symm
    have hw1 : M 1 = (M 1).map (reopen id c) := (map_reopen_self (findO_notin hf)).symm
    have HR := hide (And.intro hr (And.intro hw0 hw1))
    clear h hr hf hf0 hw0 hw1
    go_enter Tryz.func138, Tryz.ntmps138
    go_wp2_with (go_at_call 136; refine (bFind_any b bx tr td v M id _ (unhide HB)).mono ?_; rintro e w1 ⟨rfl, rfl⟩; rw [(unhide HR).1])
    go_end0
    exact ⟨rfl, v, (unhide HB).congr (fun j hj => by
      match j, hj with
      | 0, _ => exact (unhide HR).2.1
      | 1, _ => exact (unhide HR).2.2), Fr.refl _ _, fun g hg => .inl hg⟩
end Go.Proofs.YtigpgnjgmaoejaaGreat
