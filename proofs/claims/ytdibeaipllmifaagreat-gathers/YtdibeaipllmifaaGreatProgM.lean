/- Contracts of a book's Reopen and Of. Conditions: the book lies in memory, at most 1000 orders on a side, no number twice. -/
import Derived.Test.YtdibeaipllmifaaGreatProgGN
namespace Go.Proofs.YtdibeaipllmifaaGreat
open Go.RowKit


theorem set_setCell {w : World} {g g' k : Nat} {u : Value} (h : g' ≠ g) : (w.setCell ⟨g, k, none⟩ u).heap[g']? = w.heap[g']? := heap_set_other h k u

/-- What Of has found behind some sides. -/
def outTo (M : Nat → List Ord) (t : Int) (k : Nat) : List Ord := if k = 0 then [] else if k = 1 then (M 0).filter (isOf t) else (M 0).filter (isOf t) ++ (M 1).filter (isOf t)
theorem new_cellsAt {b : Nat} (w : World) (cs : List Value) (T : TypeId) (hb : b = w.heap.size) : ∀ j u, cs[j]? = some u → (w.alloc (.cells cs.toArray T)).cell? ((⟨b, 0, none⟩ : Addr).add j) = some u := by
  subst hb; exact new_cells w cs T

set_option maxHeartbeats 4000000 in
theorem bOf_any (b bx : Nat) (tr : Bool) (td : Int) (v : Nat → Value) (M : Nat → List Ord) (t : Int) (w : World) (h : PB w b bx tr td v M) :
    Calls Tryz.prog 63 #[.pointer (some ⟨b, 0, none⟩), .int .i64 t] w fun e w' => ∃ r, e = .returned r ∧ Os w' w.heap.size r ((M 0).filter (isOf t) ++ (M 1).filter (isOf t)) ∧ Fr No w w' := by
  have HB := hide h
  clear h
  go_enter Tryz.func63, Tryz.ntmps63
  go_wp2
  go_loopw [5, 9] (fun l i wr => ∃ k : Nat, k ≤ 2 ∧ i = .int .i64 k ∧ Os wr w.heap.size l (outTo M t k) ∧ Fr No w wr) (fun _ i _ => 2 - (intOf i).toNat)
  case atStart => exact ⟨0, by omega, rfl, World.ownsRow_nil _ _ _ _, Fr.refl _ _⟩
  case round =>
    obtain ⟨k, hk, rfl, hown, hfr⟩ := hrel
    match k, hk with
    | 0, _ =>
      simp only [show (((0 : Nat)) : Int) = 0 from rfl]
      have hB := (unhide HB).no hfr
      have hc := hB.cells.2.2.1
      have ho := (unhide HB).own 0 (by omega)
      have hl := hB.len 0 (by omega)
      have hl0 := hB.len 0 (by omega)
      obtain ⟨a, cap, hv⟩ := hB.side0.at_.form
      rw [hv] at hc ho
      have hbl := hB.lt
      clear hB hv
      simp only [outTo, if_true] at hown
      have HOW := hide ho
      have HFR := hide hfr
      have HN0 := hide hown
      have hsz0 := hfr.size
      generalize hM : M 0 = L at *
      generalize hnn : L.length = n at *
      have Hn := hide hnn
      have HM := hide hM
      clear ho hfr hown hnn hM
      go_wp2
      go_loopw [5, 20] (fun l c wi => ∃ k : Nat, k ≤ n ∧ c = .int .i64 k ∧ Os wi w.heap.size l ([] ++ (L.take k).filter (isOf t)) ∧ Fr No w wi) (fun _ c _ => n - (intOf c).toNat)
      case atStart => exact ⟨0, Nat.zero_le _, rfl, by simpa using unhide HN0, unhide HFR⟩
      case round =>
        obtain ⟨k, hk, rfl, hown, hfi⟩ := hrel
        have hszi := hfi.size
        have HFI := hide hfi
        by_cases hlt : k < n
        · have hlt' : k < L.length := by rw [unhide Hn]; exact hlt
          obtain ⟨g, rfl, hg, _, c0, c1, c2, c3, c4, c5, _⟩ := os_at (own_fr (unhide HOW) hfi (fun _ _ => id)) k hlt'
          have HS := hide (subTo_succ (t := t) hlt')
          have hsub : ([] ++ (L.take k).filter (isOf t)).length ≤ 2000 := by
            have h1 : ((L.take k).filter (isOf t)).length ≤ (L.take k).length := List.length_filter_le _ _
            have h2 : (L.take k).length ≤ k := List.length_take_le _ _
            have h3 : ((M 0).filter (isOf t)).length ≤ (M 0).length := List.length_filter_le _ _
            simp only [List.length_append, List.length_nil]
            omega
          clear hfi
          cases hit : isOf t L[k] with
          | false =>
            have hb : (L[k].trader == t) = false := hit
            have HIT := hide hit
            clear hit
            go_wp2
            go_roundw
            case rel => exact ⟨k + 1, by omega, by go_num, by rw [unhide HS, if_neg (by rw [unhide HIT]; decide)]; exact own_fr (S := No) hown ((Fr.refl _ _).alloc _) (fun _ _ => id), (unhide HFI).alloc _⟩
            case measure => simp [intOf]; omega
          | true =>
            have hb : (L[k].trader == t) = true := hit
            have HIT := hide hit
            clear hit
            generalize hL0 : [] ++ (L.take k).filter (isOf t) = L0 at *
            have HL0 := hide hL0
            clear hL0
            go_wp2_with (at_builtin; refine app_ord rfl (.tmp 28) (.tmp 30) rfl w.heap.size _ L0 (own_fr (S := No) hown (by repeat (first | exact Fr.refl _ _ | refine Fr.drew ?_ | refine Fr.alloc ?_ _)) (fun _ _ => id)) rfl ⟨wr.heap.size + 1, 0, none⟩ 1 1 [L[k]] rfl rfl (by simp) (new_cellsAt _ L[k].cells _ (by simp)) (by simp; omega) (by simp; omega) ?_; intro g1 c1 w1 hown1 hfr1 hat1 hlt1)
            go_roundw
            case rel =>
              refine ⟨k + 1, by omega, by go_num, by rw [unhide HS, if_pos (unhide HIT), ← List.append_assoc, unhide HL0]; exact hown1, Fr.trans (((unhide HFI).alloc _).alloc _) hfr1 fun j hj ht => absurd (hown.lt j ht).1 (by omega)⟩
            case measure => simp [intOf]; omega
        · have hkn : L.take k = L := List.take_of_length_le (by have := unhide Hn; omega)
          rw [hkn] at hown
          clear hkn
          go_wp2
          go_roundw
          case rel => exact ⟨1, by omega, by go_num, by rw [← unhide HM] at hown; simpa [outTo] using hown, hfi⟩
          case measure => simp [intOf]
    | 1, _ =>
      simp only [show (((1 : Nat)) : Int) = 1 from rfl]
      have hB := (unhide HB).no hfr
      have hc := hB.cells.2.2.2
      have ho := (unhide HB).own 1 (by omega)
      have hl := hB.len 1 (by omega)
      have hl0 := hB.len 0 (by omega)
      obtain ⟨a, cap, hv⟩ := hB.side1.at_.form
      rw [hv] at hc ho
      have hbl := hB.lt
      clear hB hv
      simp only [outTo, show ¬ ((1 : Nat) = 0) by decide, if_true, if_false] at hown
      have HOW := hide ho
      have HFR := hide hfr
      have HN0 := hide hown
      have hsz0 := hfr.size
      generalize hM : M 1 = L at *
      generalize hnn : L.length = n at *
      have Hn := hide hnn
      have HM := hide hM
      clear ho hfr hown hnn hM
      go_wp2
      go_loopw [5, 20] (fun l c wi => ∃ k : Nat, k ≤ n ∧ c = .int .i64 k ∧ Os wi w.heap.size l (((M 0).filter (isOf t)) ++ (L.take k).filter (isOf t)) ∧ Fr No w wi) (fun _ c _ => n - (intOf c).toNat)
      case atStart => exact ⟨0, Nat.zero_le _, rfl, by simpa using unhide HN0, unhide HFR⟩
      case round =>
        obtain ⟨k, hk, rfl, hown, hfi⟩ := hrel
        have hszi := hfi.size
        have HFI := hide hfi
        by_cases hlt : k < n
        · have hlt' : k < L.length := by rw [unhide Hn]; exact hlt
          obtain ⟨g, rfl, hg, _, c0, c1, c2, c3, c4, c5, _⟩ := os_at (own_fr (unhide HOW) hfi (fun _ _ => id)) k hlt'
          have HS := hide (subTo_succ (t := t) hlt')
          have hsub : (((M 0).filter (isOf t)) ++ (L.take k).filter (isOf t)).length ≤ 2000 := by
            have h1 : ((L.take k).filter (isOf t)).length ≤ (L.take k).length := List.length_filter_le _ _
            have h2 : (L.take k).length ≤ k := List.length_take_le _ _
            have h3 : ((M 0).filter (isOf t)).length ≤ (M 0).length := List.length_filter_le _ _
            simp only [List.length_append]
            omega
          clear hfi
          cases hit : isOf t L[k] with
          | false =>
            have hb : (L[k].trader == t) = false := hit
            have HIT := hide hit
            clear hit
            go_wp2
            go_roundw
            case rel => exact ⟨k + 1, by omega, by go_num, by rw [unhide HS, if_neg (by rw [unhide HIT]; decide)]; exact own_fr (S := No) hown ((Fr.refl _ _).alloc _) (fun _ _ => id), (unhide HFI).alloc _⟩
            case measure => simp [intOf]; omega
          | true =>
            have hb : (L[k].trader == t) = true := hit
            have HIT := hide hit
            clear hit
            generalize hL0 : ((M 0).filter (isOf t)) ++ (L.take k).filter (isOf t) = L0 at *
            have HL0 := hide hL0
            clear hL0
            go_wp2_with (at_builtin; refine app_ord rfl (.tmp 28) (.tmp 30) rfl w.heap.size _ L0 (own_fr (S := No) hown (by repeat (first | exact Fr.refl _ _ | refine Fr.drew ?_ | refine Fr.alloc ?_ _)) (fun _ _ => id)) rfl ⟨wr.heap.size + 1, 0, none⟩ 1 1 [L[k]] rfl rfl (by simp) (new_cellsAt _ L[k].cells _ (by simp)) (by simp; omega) (by simp; omega) ?_; intro g1 c1 w1 hown1 hfr1 hat1 hlt1)
            go_roundw
            case rel =>
              refine ⟨k + 1, by omega, by go_num, by rw [unhide HS, if_pos (unhide HIT), ← List.append_assoc, unhide HL0]; exact hown1, Fr.trans (((unhide HFI).alloc _).alloc _) hfr1 fun j hj ht => absurd (hown.lt j ht).1 (by omega)⟩
            case measure => simp [intOf]; omega
        · have hkn : L.take k = L := List.take_of_length_le (by have := unhide Hn; omega)
          rw [hkn] at hown
          clear hkn
          go_wp2
          go_roundw
          case rel => exact ⟨2, by omega, by go_num, by rw [← unhide HM] at hown; simpa [outTo] using hown, hfi⟩
          case measure => simp [intOf]
    | 2, _ =>
      go_wp2
      go_ret
      exact ⟨_, rfl, hown, hfr⟩
end Go.Proofs.YtdibeaipllmifaaGreat
