/- Contracts of the document's small functions: in, good, least, find, resting, best. Conditions: the pit lies in memory, and fewer than 100001 orders rest. -/
import Derived.Test.YtigpgnjgmaoejaaGreatLay
namespace Go.Proofs.YtigpgnjgmaoejaaGreat
open Go.RowKit

def inB (n lo hi : Int) : Bool := decide (lo ≤ n) && decide (n ≤ hi)

set_option maxHeartbeats 400000 in
theorem in_any (n lo hi : Int) (w : World) :
    Calls Tryz.prog 57 #[.int .i64 n, .int .i64 lo, .int .i64 hi] w fun e w' => e = .returned (.bool (inB n lo hi)) ∧ w' = w := by
  go_enter Tryz.func57, Tryz.ntmps57
  go_wp2
  all_goals (go_ret; refine ⟨retB ?_, rfl⟩; unfold inB)
  · rw [decide_eq_true (by omega : lo ≤ n), Bool.true_and]
  · rw [decide_eq_false (by omega : ¬ lo ≤ n), Bool.false_and]

def goodB (side price own : Int) : Bool := (side == 1 && decide (price ≤ own)) || (side == 2 && decide (own ≤ price))

set_option maxHeartbeats 400000 in
theorem good_any (s p o : Int) (w : World) :
    Calls Tryz.prog 149 #[.int .i64 s, .int .i64 p, .int .i64 o] w fun e w' => e = .returned (.bool (goodB s p o)) ∧ w' = w := by
  go_enter Tryz.func149, Tryz.ntmps149
  go_wp2
  all_goals go_ret
  all_goals refine ⟨retB ?_, rfl⟩
  all_goals (unfold goodB; simp_all <;> omega)

def leastI (a b : Int) : Int := if a < b then a else b
set_option maxHeartbeats 400000 in
theorem least_any (a b : Int) (w : World) :
    Calls Tryz.prog 123 #[.int .i64 a, .int .i64 b] w fun e w' => e = .returned (.int .i64 (leastI a b)) ∧ w' = w := by
  go_enter Tryz.func123, Tryz.ntmps123
  go_wp2
  all_goals go_ret
  all_goals refine ⟨retI ?_, rfl⟩
  all_goals (unfold leastI; split <;> omega)

/-- A place, or none. -/
def enc : Option Nat → Int
  | some i => i
  | none => -1

def findO (L : List Ord) (id : Int) : Option Nat := L.findIdx? fun o => o.id == id

theorem findO_some {L : List Ord} {id : Int} {k : Nat} (hk : k < L.length) (h : (L[k].id == id) = true) (hn : ∀ j, (hj : j < L.length) → j < k → L[j].id ≠ id) : findO L id = some k := by
  unfold findO
  rw [List.findIdx?_eq_some_iff_getElem]
  exact ⟨hk, h, fun j hj => by simpa using hn j (by omega) hj⟩
theorem findO_none {L : List Ord} {id : Int} (hn : ∀ j, (hj : j < L.length) → L[j].id ≠ id) : findO L id = none := by
  unfold findO
  rw [List.findIdx?_eq_none_iff]
  intro o ho
  obtain ⟨j, hj, rfl⟩ := List.getElem_of_mem ho
  simpa using hn j hj

set_option maxHeartbeats 400000 in
theorem find_any (bp : Nat) (v : Value) (s : Ref) (id : Int) (w : World) (hr : RefAt w bp v s) (hn : s.L.length ≤ 100000) :
    Calls Tryz.prog 113 #[.pointer (some ⟨bp, 0, none⟩), .int .i64 id] w fun e w' => e = .returned (.int .i64 (enc (findO s.L id))) ∧ w' = w := by
  obtain ⟨a, cap, rfl⟩ := hr.form
  have hL := hr.cellL
  have ho := hr.own
  clear hr
  generalize hnn : s.L.length = n at *
  have Hn := hide hnn
  clear hnn
  go_enter Tryz.func113, Tryz.ntmps113
  go_wp2
  go_loop [5] (fun i => ∃ k : Nat, k ≤ n ∧ i = .int .i64 k ∧ ∀ j, (hj : j < s.L.length) → j < k → s.L[j].id ≠ id) (fun i => n - (intOf i).toNat)
  case atStart => exact ⟨0, Nat.zero_le _, rfl, by omega⟩
  case round =>
    obtain ⟨k, hk, rfl, hnot⟩ := hrel
    by_cases hlt : k < n
    · have hlt' : k < s.L.length := by rw [unhide Hn]; exact hlt
      obtain ⟨g, rfl, _, _, hck, _⟩ := os_at ho k hlt'
      go_wp2
      · go_ret
        exact ⟨retI (by rw [findO_some hlt' ‹_› hnot]; rfl), rfl⟩
      · go_round
        case rel =>
          refine ⟨k + 1, by omega, by go_num, fun j hj hjk => ?_⟩
          by_cases he : j = k
          · subst he; simpa using ‹(s.L[j].id == id) = false›
          · exact hnot j hj (by omega)
        case measure => simp [intOf]; omega
    · go_wp2
      go_ret
      exact ⟨retI (by rw [findO_none fun j hj => hnot j hj (by have := unhide Hn; omega)]; rfl), rfl⟩

/-- How many of a side of a book rest among the first k. -/
def restTo (L : List Ord) (b s : Int) (k : Nat) : Nat := ((L.take k).filter fun o => o.book == b && o.side == s).length
theorem restTo_succ {L : List Ord} {b s : Int} {k : Nat} (hk : k < L.length) : restTo L b s (k + 1) = restTo L b s k + if (L[k].book == b && L[k].side == s) = true then 1 else 0 := by
  unfold restTo
  rw [List.take_succ_eq_append_getElem hk, List.filter_append, List.length_append]
  simp only [List.filter_cons, List.filter_nil]
  split <;> rfl
theorem restTo_le (L : List Ord) (b s : Int) (k : Nat) : restTo L b s k ≤ k := by
  unfold restTo
  exact Nat.le_trans (List.length_filter_le _ _) (List.length_take_le _ _)

def restN (L : List Ord) (b s : Int) : Nat := (L.filter fun o => o.book == b && o.side == s).length

set_option maxHeartbeats 400000 in
theorem resting_any (bp : Nat) (v : Value) (s : Ref) (b sd : Int) (w : World) (hr : RefAt w bp v s) (hn : s.L.length ≤ 100000) :
    Calls Tryz.prog 116 #[.pointer (some ⟨bp, 0, none⟩), .int .i64 b, .int .i64 sd] w fun e w' => e = .returned (.int .i64 (restN s.L b sd)) ∧ w' = w := by
  obtain ⟨a, cap, rfl⟩ := hr.form
  have hL := hr.cellL
  have ho := hr.own
  clear hr
  generalize hnn : s.L.length = n at *
  have Hn := hide hnn
  clear hnn
  go_enter Tryz.func116, Tryz.ntmps116
  go_wp2
  go_loop [7, 8] (fun c i => ∃ k : Nat, k ≤ n ∧ i = .int .i64 k ∧ c = .int .i64 (restTo s.L b sd k)) (fun _ i => n - (intOf i).toNat)
  case atStart => exact ⟨0, Nat.zero_le _, rfl, by simp [restTo]⟩
  case round =>
    obtain ⟨k, hk, rfl, rfl⟩ := hrel
    have hle := restTo_le s.L b sd k
    by_cases hlt : k < n
    · have hlt' : k < s.L.length := by rw [unhide Hn]; exact hlt
      obtain ⟨g, rfl, _, _, _, _, hc2, hc3, _, _, _⟩ := os_at ho k hlt'
      have HS := hide (restTo_succ (b := b) (s := sd) hlt')
      generalize restTo s.L b sd k = c at *
      go_wp2
      all_goals
        go_round
        case rel =>
          refine ⟨k + 1, by omega, by go_num, valI ?_⟩
          rw [unhide HS]
          simp_all
        case measure => simp [intOf]; omega
    · go_wp2
      go_ret
      refine ⟨retI ?_, rfl⟩
      unfold restTo restN
      rw [List.take_of_length_le (by have := unhide Hn; omega)]
end Go.Proofs.YtigpgnjgmaoejaaGreat
