/- Contracts of the document's small functions: in, good, least, find, resting, best. Conditions: the pit lies in memory, and fewer than 100001 orders rest. -/
import Derived.Test.YtigpgnjgmaoejaaGreatLay
namespace Go.Proofs.YtigpgnjgmaoejaaGreat
open Go.RowKit

def inB (n lo hi : Int) : Bool := decide (lo ≤ n) && decide (n ≤ hi)

set_option maxHeartbeats 400000 in
theorem in_any (n lo hi : Int) (w : World) :
    Calls Tryz.prog 57 #[.int .i64 n, .int .i64 lo, .int .i64 hi] w fun e w' => e = .returned (.bool (inB n lo hi)) ∧ w' = w := by
  go_enter Tryz.func57, Tryz.ntmps57
  go_wp2
  all_goals (go_ret; refine ⟨retB ?_, rfl⟩; unfold inB)
  · rw [decide_eq_true (by omega : lo ≤ n), Bool.true_and]
  · rw [decide_eq_false (by omega : ¬ lo ≤ n), Bool.false_and]

def goodB (side price own : Int) : Bool := (side == 1 && decide (price ≤ own)) || (side == 2 && decide (own ≤ price))

set_option maxHeartbeats 400000 in
theorem good_any (s p o : Int) (w : World) :
    Calls Tryz.prog 149 #[.int .i64 s, .int .i64 p, .int .i64 o] w fun e w' => e = .returned (.bool (goodB s p o)) ∧ w' = w := by
  go_enter Tryz.func149, Tryz.ntmps149
  go_wp2
  all_goals go_ret
  all_goals refine ⟨retB ?_, rfl⟩
  all_goals (unfold goodB; simp_all <;> omega)

def leastI (a b : Int) : Int := if a < b then a else b
set_option maxHeartbeats 400000 in
theorem least_any (a b : Int) (w : World) :
    Calls Tryz.prog 123 #[.int .i64 a, .int .i64 b] w fun e w' => e = .returned (.int .i64 (leastI a b)) ∧ w' = w := by
  go_enter Tryz.func123, Tryz.ntmps123
  go_wp2
  all_goals go_ret
  all_goals refine ⟨retI ?_, rfl⟩
  all_goals (unfold leastI; split <;> omega)

/-- A place, or none. -/
def enc : Option Nat → Int
  | some i => i
  | none => -1

def findO (L : List Ord) (id : Int) : Option Nat := L.findIdx? fun o => o.id == id

theorem findO_some {L : List Ord} {id : Int} {k : Nat} (hk : k < L.length) (h : (L[k].id == id) = true) (hn : ∀ j, (hj : j < L.length) → j < k → L[j].id ≠ id) : findO L id = some k := by
  unfold findO
  rw [List.findIdx?_eq_some_iff_getElem]
  exact ⟨hk, h, fun j hj => by simpa using hn j (by omega) hj⟩
theorem findO_none {L : List Ord} {id : Int} (hn : ∀ j, (hj : j < L.length) → L[j].id ≠ id) : findO L id = none := by
  unfold findO
  rw [List.findIdx?_eq_none_iff]
  intro o ho
  obtain ⟨j, hj, rfl⟩ := List.getElem_of_mem ho
  simpa using hn j hj

set_option maxHeartbeats 400000 in
theorem find_any (bp : Nat) (v : Value) (s : Ref) (id : Int) (w : World) (hr : RefAt w bp v s) (hn : s.L.length ≤ 100000) :
    Calls Tryz.prog 113 #[.pointer (some ⟨bp, 0, none⟩), .int .i64 id] w fun e w' => e = .returned (.int .i64 (enc (findO s.L id))) ∧ w' = w := by
  obtain ⟨a, cap, rfl⟩ := hr.form
  have hL := hr.cellL
  have ho := hr.own
  clear hr
  generalize hnn : s.L.length = n at *
  have Hn := hide hnn
  clear hnn
  go_enter Tryz.func113, Tryz.ntmps113
  go_wp2
  go_loop [5] (fun i => ∃ k : Nat, k ≤ n ∧ i = .int .i64 k ∧ ∀ j, (hj : j < s.L.length) → j < k → s.L[j].id ≠ id) (fun i => n - (intOf i).toNat)
  case atStart => exact ⟨0, Nat.zero_le _, rfl, by omega⟩
  case round =>
    obtain ⟨k, hk, rfl, hnot⟩ := hrel
    by_cases hlt : k < n
    · have hlt' : k < s.L.length := by rw [unhide Hn]; exact hlt
      obtain ⟨g, rfl, _, _, hck, _⟩ := os_at ho k hlt'
      go_wp2
      · go_ret
        exact ⟨retI (by rw [findO_some hlt' ‹_› hnot]; rfl), rfl⟩
      · go_round
        case rel =>
          refine ⟨k + 1, by omega, by go_num, fun j hj hjk => ?_⟩
          by_cases he : j = k
          · subst he; simpa using ‹(s.L[j].id == id) = false›
          · exact hnot j hj (by omega)
        case measure => simp [intOf]; omega
    · go_wp2
      go_ret
      exact ⟨retI (by rw [findO_none fun j hj => hnot j hj (by have := unhide Hn; omega)]; rfl), rfl⟩

/-- How many of a side of a book rest among the first k. -/
def restTo (L : List Ord) (b s : Int) (k : Nat) : Nat := ((L.take k).filter fun o => o.book == b && o.side == s).length
theorem restTo_succ {L : List Ord} {b s : Int} {k : Nat} (hk : k < L.length) : restTo L b s (k + 1) = restTo L b s k + if (L[k].book == b && L[k].side == s) = true then 1 else 0 := by
  unfold restTo
  rw [List.take_succ_eq_append_getElem hk, List.filter_append, List.length_append]
  simp only [List.filter_cons, List.filter_nil]
  split <;> rfl
theorem restTo_le (L : List Ord) (b s : Int) (k : Nat) : restTo L b s k ≤ k := by
  unfold restTo
  exact Nat.le_trans (List.length_filter_le _ _) (List.length_take_le _ _)

def restN (L : List Ord) (b s : Int) : Nat := (L.filter fun o => o.book == b && o.side == s).length

set_option maxHeartbeats 400000 in
theorem resting_any (bp : Nat) (v : Value) (s : Ref) (b sd : Int) (w : World) (hr : RefAt w bp v s) (hn : s.L.length ≤ 100000) :
    Calls Tryz.prog 116 #[.pointer (some ⟨bp, 0, none⟩), .int .i64 b, .int .i64 sd] w fun e w' => e = .returned (.int .i64 (restN s.L b sd)) ∧ w' = w := by
  obtain ⟨a, cap, rfl⟩ := hr.form
  have hL := hr.cellL
  have ho := hr.own
  clear hr
  generalize hnn : s.L.length = n at *
  have Hn := hide hnn
  clear hnn
  go_enter Tryz.func116, Tryz.ntmps116
  go_wp2
  go_loop [7, 8] (fun c i => ∃ k : Nat, k ≤ n ∧ i = .int .i64 k ∧ c = .int .i64 (restTo s.L b sd k)) (fun _ i => n - (intOf i).toNat)
  case atStart => exact ⟨0, Nat.zero_le _, rfl, by simp [restTo]⟩
  case round =>
    obtain ⟨k, hk, rfl, rfl⟩ := hrel
    have hle := restTo_le s.L b sd k
    by_cases hlt : k < n
    · have hlt' : k < s.L.length := by rw [unhide Hn]; exact hlt
      obtain ⟨g, rfl, _, _, _, _, hc2, hc3, _, _, _⟩ := os_at ho k hlt'
      have HS := hide (restTo_succ (b := b) (s := sd) hlt')
      generalize restTo s.L b sd k = c at *
      go_wp2
      all_goals
        go_round
        case rel =>
          refine ⟨k + 1, by omega, by go_num, valI ?_⟩
          rw [unhide HS]
          simp_all
        case measure => simp [intOf]; omega
    · go_wp2
      go_ret
      refine ⟨retI ?_, rfl⟩
      unfold restTo restN
      rw [List.take_of_length_le (by have := unhide Hn; omega)]
end Go.Proofs.YtigpgnjgmaoejaaGreat

/- Contract of the document's best: the place of the best order of a side of a book. Conditions: the pit lies in memory, and fewer than 100001 orders rest. -/
namespace Go.Proofs.YtigpgnjgmaoejaaGreat
open Go.RowKit

def priceAt (L : List Ord) (j : Nat) : Int := (L[j]?.map Ord.price).getD 0
theorem priceAt_eq {L : List Ord} {j : Nat} (h : j < L.length) : priceAt L j = L[j].price := by simp [priceAt, List.getElem?_eq_getElem h]

def beatsB (s p q : Int) : Bool := (s == 1 && decide (q < p)) || (s == 2 && decide (p < q))

def bestStep (L : List Ord) (b s : Int) (a : Option Nat) (k : Nat) (o : Ord) : Option Nat :=
  if (o.book == b && o.side == s) = true then
    match a with
    | none => some k
    | some j => if beatsB s o.price (priceAt L j) = true then some k else some j
  else a

def bestTo (L : List Ord) (b s : Int) : Nat → Option Nat
  | 0 => none
  | k + 1 => match L[k]? with
    | none => bestTo L b s k
    | some o => bestStep L b s (bestTo L b s k) k o

def bestO (L : List Ord) (b s : Int) : Option Nat := bestTo L b s L.length

theorem bestTo_succ {L : List Ord} {b s : Int} {k : Nat} (h : k < L.length) : bestTo L b s (k + 1) = bestStep L b s (bestTo L b s k) k L[k] := by
  simp [bestTo, List.getElem?_eq_getElem h]

theorem bestTo_lt {L : List Ord} {b s : Int} : ∀ {k j : Nat}, bestTo L b s k = some j → j < k ∧ j < L.length
  | 0, j, h => by simp [bestTo] at h
  | k + 1, j, h => by
    simp only [bestTo] at h
    split at h
    · have := bestTo_lt h; omega
    · rename_i o ho
      have hk := (List.getElem?_eq_some_iff.1 ho).1
      unfold bestStep at h
      split at h
      · split at h
        · cases h; omega
        · rename_i j' hj'
          have := bestTo_lt hj'
          split at h <;> (cases h; omega)
      · have := bestTo_lt h; omega

theorem bs_no {L : List Ord} {b s : Int} {a : Option Nat} {k : Nat} {o : Ord} (h : (o.book != b) = true ∨ (o.side != s) = true) : bestStep L b s a k o = a := by
  rw [bestStep.eq_def, if_neg (by rcases h with h | h <;> simp at h <;> simp [h])]
theorem bs_none {L : List Ord} {b s : Int} {k : Nat} {o : Ord} (h : (o.book != b) = false) (h' : (o.side != s) = false) : bestStep L b s none k o = some k := by
  rw [bestStep.eq_def, if_pos (by simp at h h'; simp [h, h'])]
theorem bs_yes {L : List Ord} {b s : Int} {j k : Nat} {o : Ord} (h : (o.book != b) = false) (h' : (o.side != s) = false) (hb : beatsB s o.price (priceAt L j) = true) : bestStep L b s (some j) k o = some k := by
  rw [bestStep.eq_def, if_pos (by simp at h h'; simp [h, h'])]; simp [hb]
theorem bs_keep {L : List Ord} {b s : Int} {j k : Nat} {o : Ord} (h : (o.book != b) = false) (h' : (o.side != s) = false) (hb : beatsB s o.price (priceAt L j) = false) : bestStep L b s (some j) k o = some j := by
  rw [bestStep.eq_def, if_pos (by simp at h h'; simp [h, h'])]; simp [hb]

set_option maxHeartbeats 2000000 in
theorem best_any (bp : Nat) (v : Value) (s : Ref) (b sd : Int) (w : World) (hr : RefAt w bp v s) (hn : s.L.length ≤ 100000) :
    Calls Tryz.prog 122 #[.pointer (some ⟨bp, 0, none⟩), .int .i64 b, .int .i64 sd] w fun e w' => e = .returned (.int .i64 (enc (bestO s.L b sd))) ∧ Fr No w w' := by
  obtain ⟨a, cap, rfl⟩ := hr.form
  have HR := hide hr
  have hL := hr.cellL
  clear hr
  generalize hnn : s.L.length = n at *
  have Hn := hide hnn
  clear hnn
  go_enter Tryz.func122, Tryz.ntmps122
  go_wp2
  go_loopw [7, 8] (fun at_ i wr => ∃ k : Nat, k ≤ n ∧ i = .int .i64 k ∧ at_ = .int .i64 (enc (bestTo s.L b sd k)) ∧ Fr No w wr) (fun _ i _ => n - (intOf i).toNat)
  case atStart => exact ⟨0, Nat.zero_le _, rfl, rfl, Fr.refl _ _⟩
  case round =>
    obtain ⟨k, hk, rfl, rfl, hfr⟩ := hrel
    have hr2 := (unhide HR).no hfr
    have hL2 := hr2.cellL
    have hbp := hr2.lt
    have HF := hide hfr
    clear hfr hL
    by_cases hlt : k < n
    · have hlt' : k < s.L.length := by rw [unhide Hn]; exact hlt
      obtain ⟨g, rfl, hg, _, hc0, hc1, hc2, hc3, hc4, hc5, _⟩ := os_at hr2.own k hlt'
      have HS := hide (bestTo_succ (b := b) (s := sd) hlt')
      by_cases hbk : (s.L[k].book != b) = true
      · have HS2 := hide ((unhide HS).trans (bs_no (.inl hbk)))
        clear hr2 HS
        go_wp2
        go_roundw
        case rel => exact ⟨k + 1, by omega, by go_num, by rw [unhide HS2], (unhide HF).alloc _⟩
        case measure => simp [intOf]; omega
      · have hbk2 : (s.L[k].book != b) = false := by simpa using hbk
        clear hbk
        by_cases hsd : (s.L[k].side != sd) = true
        · have HS2 := hide ((unhide HS).trans (bs_no (.inr hsd)))
          clear hr2 HS
          go_wp2
          go_roundw
          case rel => exact ⟨k + 1, by omega, by go_num, by rw [unhide HS2], (unhide HF).alloc _⟩
          case measure => simp [intOf]; omega
        · have hsd2 : (s.L[k].side != sd) = false := by simpa using hsd
          clear hsd
          cases hat : bestTo s.L b sd k with
          | none =>
            have HS2 : Hid (bestTo s.L b sd (k + 1) = some k) := (unhide HS).trans (by rw [hat]; exact bs_none hbk2 hsd2)
            clear hr2 HS
            rw [show enc none = -1 from rfl]
            go_wp2
            go_quiet (fail)
            go_wp2
            go_roundw
            case rel => exact ⟨k + 1, by omega, by go_num, by rw [unhide HS2]; rfl, ((unhide HF).alloc _).drewN _⟩
            case measure => simp [intOf]; omega
          | some j =>
            obtain ⟨hjk, hjl⟩ := bestTo_lt hat
            obtain ⟨g', hgg, _, _, _, _, _, _, hj4, _, _⟩ := os_at hr2.own j hjl
            simp only [Option.some.injEq, Addr.mk.injEq, and_true] at hgg
            subst hgg
            have hpj := priceAt_eq hjl
            rw [← hpj] at hj4
            have hj0 : decide ((j : Int) < 0) = false := by simp
            have hjn : (j : Int) < n := by omega
            generalize hpp : priceAt s.L j = pj at *
            have HPP := hide hpp
            have HA := hide hat
            clear hr2 hpp hpj hat
            rw [show enc (some j) = (j : Int) from rfl]
            have yes : (beatsB sd s.L[k].price pj = true) → Hid (bestTo s.L b sd (k + 1) = some k) := fun h => (unhide HS).trans (by rw [unhide HA]; exact bs_yes hbk2 hsd2 (by rw [unhide HPP]; exact h))
            have no : (beatsB sd s.L[k].price pj = false) → Hid (bestTo s.L b sd (k + 1) = some j) := fun h => (unhide HS).trans (by rw [unhide HA]; exact bs_keep hbk2 hsd2 (by rw [unhide HPP]; exact h))
            by_cases h1 : sd = 1
            · subst h1
              by_cases hp : pj < s.L[k].price
              · have HS2 := yes (by simp [beatsB, hp])
                clear yes no HS
                go_wp2
                go_quiet (fail)
                go_wp2
                go_roundw
                case rel => exact ⟨k + 1, by omega, by go_num, by rw [unhide HS2]; rfl, ((unhide HF).alloc _).drewN _⟩
                case measure => simp [intOf]; omega
              · have HS2 := no (by simp [beatsB, hp])
                clear yes no HS
                have hpd : decide (pj < s.L[k].price) = false := by simpa using hp
                go_wp2
                go_quiet (fail)
                go_wp2
                go_roundw
                case rel => exact ⟨k + 1, by omega, by go_num, by rw [unhide HS2]; rfl, ((unhide HF).alloc _).drewN _⟩
                case measure => simp [intOf]; omega
            · have h1' : (sd == 1) = false := by simpa using h1
              clear h1
              by_cases h2 : sd = 2
              · subst h2
                by_cases hp : s.L[k].price < pj
                · have HS2 := yes (by simp [beatsB, hp])
                  clear yes no HS
                  go_wp2
                  go_quiet (fail)
                  go_wp2
                  go_roundw
                  case rel => exact ⟨k + 1, by omega, by go_num, by rw [unhide HS2]; rfl, ((unhide HF).alloc _).drewN _⟩
                  case measure => simp [intOf]; omega
                · have HS2 := no (by simp [beatsB, hp])
                  clear yes no HS
                  have hpd : decide (s.L[k].price < pj) = false := by simpa using hp
                  go_wp2
                  go_quiet (fail)
                  go_wp2
                  go_roundw
                  case rel => exact ⟨k + 1, by omega, by go_num, by rw [unhide HS2]; rfl, ((unhide HF).alloc _).drewN _⟩
                  case measure => simp [intOf]; omega
              · have h2' : (sd == 2) = false := by simpa using h2
                clear h2
                have HS2 := no (by simp [beatsB, h1', h2'])
                clear yes no HS
                go_wp2
                go_quiet (fail)
                go_wp2
                go_roundw
                case rel => exact ⟨k + 1, by omega, by go_num, by rw [unhide HS2]; rfl, ((unhide HF).alloc _).drewN _⟩
                case measure => simp [intOf]; omega
    · go_wp2
      go_ret
      exact ⟨retI (by rw [bestO, unhide Hn, show k = n from by omega]), unhide HF⟩
end Go.Proofs.YtigpgnjgmaoejaaGreat
