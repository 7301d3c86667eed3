/- Contracts of a side of a book: find, above, below, place. Conditions: the side's list lies in memory, and at most 100000 orders rest there. -/
import Derived.Test.YtigpgnjgmaoejaaGreatMarts
namespace Go.Proofs.YtigpgnjgmaoejaaGreat
open Go.RowKit

/-- A side's list: the slice in its cell. -/
structure SideAt (w : World) (b o : Nat) (v : Value) (M : List Ord) : Prop where
  cel : w.cell? ⟨b, o, none⟩ = some v
  own : Os w 0 v M

theorem SideAt.form {w : World} {b o : Nat} {v : Value} {M : List Ord} (h : SideAt w b o v M) : ∃ a cap, v = .slice a M.length cap :=
  let ⟨a, cap, h1, _⟩ := own_form h.own
  ⟨a, cap, h1⟩

set_option maxHeartbeats 400000 in
theorem sfind_any (b o : Nat) (v : Value) (M : List Ord) (id : Int) (w : World) (hs : SideAt w b o v M) (hn : M.length ≤ 100000) :
    Calls Tryz.prog 161 #[.pointer (some ⟨b, o, none⟩), .int .i64 id] w fun e w' => e = .returned (.int .i64 (enc (findO M id))) ∧ w' = w := by
  obtain ⟨a, cap, rfl⟩ := hs.form
  have hL := hs.cel
  have ho := hs.own
  clear hs
  generalize hnn : M.length = n at *
  have Hn := hide hnn
  clear hnn
  go_enter Tryz.func161, Tryz.ntmps161
  go_wp2
  go_loop [11] (fun i => ∃ k : Nat, k ≤ n ∧ i = .int .i64 k ∧ ∀ j, (hj : j < M.length) → j < k → M[j].id ≠ id) (fun i => n - (intOf i).toNat)
  case atStart => exact ⟨0, Nat.zero_le _, rfl, by omega⟩
  case round =>
    obtain ⟨k, hk, rfl, hnot⟩ := hrel
    by_cases hlt : k < n
    · have hlt' : k < M.length := by rw [unhide Hn]; exact hlt
      obtain ⟨g, rfl, _, _, hck, _⟩ := os_at ho k hlt'
      go_wp2
      · go_ret
        exact ⟨retI (by rw [findO_some hlt' ‹_› hnot]; rfl), rfl⟩
      · go_round
        case rel =>
          refine ⟨k + 1, by omega, by go_num, fun j hj hjk => ?_⟩
          by_cases he : j = k
          · subst he; simpa using ‹(M[j].id == id) = false›
          · exact hnot j hj (by omega)
        case measure => simp [intOf]; omega
    · go_wp2
      go_ret
      exact ⟨retI (by rw [findO_none fun j hj => hnot j hj (by have := unhide Hn; omega)]; rfl), rfl⟩

set_option maxHeartbeats 400000 in
theorem above_any (b o : Nat) (v : Value) (M : List Ord) (p : Int) (k : Nat) (w : World) (hs : SideAt w b o v M) (hk : k < M.length) :
    Calls Tryz.prog 70 #[.pointer (some ⟨b, o, none⟩), .int .i64 p, .int .i64 (k : Int)] w fun e w' => e = .returned (.bool (beatsB 1 p M[k].price)) ∧ w' = w := by
  obtain ⟨a, cap, rfl⟩ := hs.form
  have hL := hs.cel
  obtain ⟨g, rfl, -, -, -, -, -, -, hc, -⟩ := os_at hs.own k hk
  clear hs
  generalize M[k].price = q at *
  generalize M.length = n at *
  go_enter Tryz.func70, Tryz.ntmps70
  go_wp2
  go_ret
  exact ⟨retB (by simp [beatsB]), rfl⟩
set_option maxHeartbeats 400000 in
theorem below_any (b o : Nat) (v : Value) (M : List Ord) (p : Int) (k : Nat) (w : World) (hs : SideAt w b o v M) (hk : k < M.length) :
    Calls Tryz.prog 71 #[.pointer (some ⟨b, o, none⟩), .int .i64 p, .int .i64 (k : Int)] w fun e w' => e = .returned (.bool (beatsB 2 p M[k].price)) ∧ w' = w := by
  obtain ⟨a, cap, rfl⟩ := hs.form
  have hL := hs.cel
  obtain ⟨g, rfl, -, -, -, -, -, -, hc, -⟩ := os_at hs.own k hk
  clear hs
  generalize M[k].price = q at *
  generalize M.length = n at *
  go_enter Tryz.func71, Tryz.ntmps71
  go_wp2
  go_ret
  exact ⟨retB (by simp [beatsB]), rfl⟩

/-- Which side is which. -/
def beatsV (sd : Int) (b o : Nat) : Value := .func (.func (if sd = 1 then 70 else 71)) #[.pointer (some ⟨b, o, none⟩)] #[]

theorem placeTo_step {s p : Int} {M : List Ord} {k : Nat} (hk : k < M.length) : placeTo s p M (k + 1) = if beatsB s p M[k].price = true then placeTo s p M k else k + 1 := by
  rw [placeTo, priceAt_eq hk]

set_option maxHeartbeats 1000000 in
theorem place_buy (b o : Nat) (v : Value) (M : List Ord) (p : Int) (w : World) (hs : SideAt w b o v M) (hb : w.cell? ⟨b, o + 1, none⟩ = some (beatsV 1 b o)) (hn : M.length ≤ 100000) :
    Calls Tryz.prog 160 #[.pointer (some ⟨b, o, none⟩), .int .i64 p] w fun e w' => e = .returned (.int .i64 (placeO 1 p M : Nat)) ∧ w' = w := by
  obtain ⟨a, cap, rfl⟩ := hs.form
  have hL := hs.cel
  have HS := hide hs
  obtain ⟨R, hR⟩ : ∃ R, R = placeTo 1 p M M.length := ⟨_, rfl⟩
  rw [show placeO 1 p M = R from hR.symm]
  have Hp := hide hR
  clear hR
  clear hs
  generalize hnn : M.length = n at *
  have Hn := hide hnn
  clear hnn
  replace hb := hb.trans (show some (beatsV 1 b o) = some (.func (.func 70) #[.pointer (some ⟨b, o, none⟩)] #[]) from rfl)
  go_enter Tryz.func160, Tryz.ntmps160
  go_wp2
  go_loop [5] (fun i => ∃ k : Nat, k ≤ n ∧ i = .int .i64 k ∧ Hid (R = placeTo 1 p M k)) (fun i => (intOf i).toNat)
  case atStart => exact ⟨n, Nat.le_refl _, rfl, Hp⟩
  case round =>
    obtain ⟨k, hk, rfl, HR⟩ := hrel
    by_cases h0 : k = 0
    · subst h0
      go_wp2
      go_ret
      exact ⟨retI (by rw [unhide HR]; rfl), rfl⟩
    · obtain ⟨j, rfl⟩ : ∃ j, k = j + 1 := ⟨k - 1, by omega⟩
      have hj : j < M.length := by rw [unhide Hn]; omega
      have HJ := hide hj
      have HST := hide (placeTo_step (s := 1) (p := p) hj)
      clear h0
      go_wp2_with (go_at_call 70; refine (above_any b o _ M p j _ (unhide HS) (unhide HJ)).mono ?_; rintro e w1 ⟨rfl, rfl⟩)
      · go_round
        case rel => exact ⟨j, by omega, by go_num, by show _ = _; rw [unhide HR, unhide HST, if_pos ‹_›]⟩
        case measure => simp [intOf]
      · go_ret
        exact ⟨retI (by rw [unhide HR, unhide HST, if_neg (by simp [*])]; rfl), rfl⟩

set_option maxHeartbeats 1000000 in
theorem place_sell (b o : Nat) (v : Value) (M : List Ord) (p : Int) (w : World) (hs : SideAt w b o v M) (hb : w.cell? ⟨b, o + 1, none⟩ = some (beatsV 2 b o)) (hn : M.length ≤ 100000) :
    Calls Tryz.prog 160 #[.pointer (some ⟨b, o, none⟩), .int .i64 p] w fun e w' => e = .returned (.int .i64 (placeO 2 p M : Nat)) ∧ w' = w := by
  obtain ⟨a, cap, rfl⟩ := hs.form
  have hL := hs.cel
  have HS := hide hs
  obtain ⟨R, hR⟩ : ∃ R, R = placeTo 2 p M M.length := ⟨_, rfl⟩
  rw [show placeO 2 p M = R from hR.symm]
  have Hp := hide hR
  clear hR
  clear hs
  generalize hnn : M.length = n at *
  have Hn := hide hnn
  clear hnn
  replace hb := hb.trans (show some (beatsV 2 b o) = some (.func (.func 71) #[.pointer (some ⟨b, o, none⟩)] #[]) from rfl)
  go_enter Tryz.func160, Tryz.ntmps160
  go_wp2
  go_loop [5] (fun i => ∃ k : Nat, k ≤ n ∧ i = .int .i64 k ∧ Hid (R = placeTo 2 p M k)) (fun i => (intOf i).toNat)
  case atStart => exact ⟨n, Nat.le_refl _, rfl, Hp⟩
  case round =>
    obtain ⟨k, hk, rfl, HR⟩ := hrel
    by_cases h0 : k = 0
    · subst h0
      go_wp2
      go_ret
      exact ⟨retI (by rw [unhide HR]; rfl), rfl⟩
    · obtain ⟨j, rfl⟩ : ∃ j, k = j + 1 := ⟨k - 1, by omega⟩
      have hj : j < M.length := by rw [unhide Hn]; omega
      have HJ := hide hj
      have HST := hide (placeTo_step (s := 2) (p := p) hj)
      clear h0
      go_wp2_with (go_at_call 71; refine (below_any b o _ M p j _ (unhide HS) (unhide HJ)).mono ?_; rintro e w1 ⟨rfl, rfl⟩)
      · go_round
        case rel => exact ⟨j, by omega, by go_num, by show _ = _; rw [unhide HR, unhide HST, if_pos ‹_›]⟩
        case measure => simp [intOf]
      · go_ret
        exact ⟨retI (by rw [unhide HR, unhide HST, if_neg (by simp [*])]; rfl), rfl⟩

theorem place_any (sd : Int) (hsd : sd = 1 ∨ sd = 2) (b o : Nat) (v : Value) (M : List Ord) (p : Int) (w : World) (hs : SideAt w b o v M) (hb : w.cell? ⟨b, o + 1, none⟩ = some (beatsV sd b o)) (hn : M.length ≤ 100000) :
    Calls Tryz.prog 160 #[.pointer (some ⟨b, o, none⟩), .int .i64 p] w fun e w' => e = .returned (.int .i64 (placeO sd p M : Nat)) ∧ w' = w := by
  rcases hsd with rfl | rfl
  · exact place_buy b o v M p w hs hb hn
  · exact place_sell b o v M p w hs hb hn
end Go.Proofs.YtigpgnjgmaoejaaGreat
