/- Contracts of the document's Volume, Order and Look. Conditions: the pit lies in memory, fewer than 100001 orders rest, what was traded is within bounds. -/
import Derived.Test.YtigpgnjgmaoejaaGreatRefE
namespace Go.Proofs.YtigpgnjgmaoejaaGreat
open Go.RowKit

theorem inB_true' {n lo hi : Int} (h : inB n lo hi = true) : lo ≤ n ∧ n ≤ hi := by simpa [inB] using h

def volTo (td : Nat → Int) : Nat → Int
  | 0 => 0
  | k + 1 => volTo td k + td (k + 1)

theorem volTo_le {td : Nat → Int} (h : ∀ k, 0 ≤ td k ∧ td k ≤ 1000000000000000) : ∀ k : Nat, 0 ≤ volTo td k ∧ volTo td k ≤ 1000000000000000 * k
  | 0 => by simp [volTo]
  | k + 1 => by have := volTo_le h k; have := h (k + 1); simp only [volTo]; omega

set_option maxHeartbeats 1000000 in
theorem volume_any (bp : Nat) (v : Value) (s : Ref) (w : World) (hr : RefAt w bp v s) (htd : ∀ k, 0 ≤ s.td k ∧ s.td k ≤ 1000000000000000) :
    Calls Tryz.prog 38 #[.pointer (some ⟨bp, 0, none⟩)] w fun e w' => e = .returned (.int .i64 (volTo s.td 8)) ∧ Fr No w w' := by
  have HR := hide hr
  have HD := hide htd
  clear hr htd
  go_enter Tryz.func38, Tryz.ntmps38
  go_wp2
  go_loopw [3, 4] (fun n i wr => ∃ k : Nat, k ≤ 8 ∧ i = .int .i64 ((k : Int) + 1) ∧ n = .int .i64 (volTo s.td k) ∧ ∃ m, wr = w.drewN m) (fun _ i _ => 9 - (intOf i).toNat)
  case atStart => exact ⟨0, by omega, rfl, rfl, 0, rfl⟩
  case round =>
    obtain ⟨k, hk, rfl, rfl, m, rfl⟩ := hrel
    by_cases hlt : k < 8
    · have hc := (unhide HR).cellTd (k + 1) (by omega)
      obtain ⟨hx0, hb1⟩ := volTo_le (unhide HD) k
      have hb2 := unhide HD (k + 1)
      have HS : Hid (volTo s.td (k + 1) = volTo s.td k + s.td (k + 1)) := rfl
      generalize volTo s.td k = x at *
      generalize s.td (k + 1) = y at *
      have hk1 : x ≤ 1000000000000000 * 8 := by omega
      clear hb1
      go_wp2
      go_roundw
      case rel => exact ⟨k + 1, by omega, by go_num, by rw [unhide HS], m, rfl⟩
      case measure => simp [intOf]; omega
    · have hk8 : k = 8 := by omega
      subst hk8
      go_wp2
      go_ret
      exact ⟨rfl, (Fr.refl _ _).drewN _⟩

def orderR (L : List Ord) (id : Int) : Value :=
  match findO L id with
  | none => .tuple #[zOrd, .int .i64 4]
  | some i => match L[i]? with
    | none => .tuple #[zOrd, .int .i64 4]
    | some x => .tuple #[x.val, .int .i64 0]

theorem findO_lt' {L : List Ord} {id : Int} {i : Nat} (h : findO L id = some i) : i < L.length := by
  unfold findO at h
  exact (List.findIdx?_eq_some_iff_getElem.1 h).1

set_option maxHeartbeats 1000000 in
theorem order_any (bp : Nat) (v : Value) (s : Ref) (id : Int) (w : World) (hr : RefAt w bp v s) (hn : s.L.length ≤ 100000) :
    Calls Tryz.prog 69 #[.pointer (some ⟨bp, 0, none⟩), .int .i64 id] w fun e w' => e = .returned (orderR s.L id) ∧ Fr No w w' := by
  have HR := hide hr
  have hbp := hr.lt
  have hL := hr.cellL
  obtain ⟨a, cap, rfl⟩ := hr.form
  cases hf : findO s.L id with
  | none =>
    have HE : Hid (orderR s.L id = .tuple #[zOrd, .int .i64 4]) := by show _ = _; simp [orderR, hf]
    have HK := hide hf
    clear hr hf
    go_enter Tryz.func69, Tryz.ntmps69
    go_wp2_with (go_at_call 113; refine (find_any bp _ s _ _ ((unhide HR).no ((Fr.refl _ _).alloc _)) hn).mono ?_; rintro e w1 ⟨rfl, rfl⟩; rw [unhide HK, show enc none = -1 from rfl])
    rw [unhide HE]
    exact bodyPost_ret (v := .tuple #[zOrd, .int .i64 4]) (by simp [results, Tryz.results69, go_sem, zOrd]) rfl ⟨rfl, (Fr.refl _ _).alloc _⟩
  | some i =>
    have hi := findO_lt' hf
    obtain ⟨g, rfl, hg, _, hc0, hc1, hc2, hc3, hc4, hc5, _⟩ := os_at hr.own i hi
    have HE : Hid (orderR s.L id = .tuple #[s.L[i].val, .int .i64 0]) := by show _ = _; simp [orderR, hf, List.getElem?_eq_getElem hi]
    have HK := hide hf
    have hin : (i : Int) < (s.L.length : Int) := by omega
    clear hr hf
    go_enter Tryz.func69, Tryz.ntmps69
    go_wp2_with (go_at_call 113; refine (find_any bp _ s _ _ ((unhide HR).no ((Fr.refl _ _).alloc _)) hn).mono ?_; rintro e w1 ⟨rfl, rfl⟩; rw [unhide HK, show enc (some i) = (i : Int) from rfl])
    rw [unhide HE]
    exact bodyPost_ret (v := .tuple #[s.L[i].val, .int .i64 0]) (by simp [results, Tryz.results69, go_sem, Ord.val]) rfl ⟨rfl, (Fr.refl _ _).alloc _⟩

def stateV (p b s t : Int) : Value := .agg #[.int .i64 p, .int .i64 b, .int .i64 s, .int .i64 t]
def lookR (s : Ref) (b : Int) : Value :=
  if inB b 1 8 = true then .tuple #[stateV (if s.tr b.toNat = true then 2 else 1) (restN s.L b 1) (restN s.L b 2) (s.td b.toNat), .int .i64 0]
  else .tuple #[stateV 0 0 0 0, .int .i64 2]

set_option maxHeartbeats 2000000 in
theorem look_any (bp : Nat) (v : Value) (s : Ref) (b : Int) (w : World) (hr : RefAt w bp v s) (hn : s.L.length ≤ 100000) :
    Calls Tryz.prog 67 #[.pointer (some ⟨bp, 0, none⟩), .int .i64 b] w fun e w' => e = .returned (lookR s b) ∧ Fr No w w' := by
  have HR := hide hr
  have hbp := hr.lt
  cases hb : inB b 1 8 with
  | false =>
    have HE : Hid (lookR s b = .tuple #[stateV 0 0 0 0, .int .i64 2]) := by show _ = _; simp [lookR, hb]
    clear hr
    go_enter Tryz.func67, Tryz.ntmps67
    go_wp2_with (go_at_call 57; refine (in_any _ _ _ _).mono ?_; rintro e w1 ⟨rfl, rfl⟩)
    rw [unhide HE]
    exact bodyPost_ret (v := .tuple #[stateV 0 0 0 0, .int .i64 2]) (by simp [results, Tryz.results67, go_sem, stateV]) rfl ⟨rfl, (Fr.refl _ _).alloc _⟩
  | true =>
    obtain ⟨h1, h8⟩ := inB_true' hb
    obtain ⟨nb, rfl⟩ := Int.eq_ofNat_of_zero_le (by omega : 0 ≤ b)
    have h9 : (nb : Int) < 9 := by omega
    have h9' : nb < 9 := by omega
    have h0' : (0 : Int) ≤ (nb : Int) := by omega
    have hT := hr.cellTr nb (by omega)
    have hD := hr.cellTd nb (by omega)
    have HE : Hid (lookR s nb = .tuple #[stateV (if s.tr nb = true then 2 else 1) (restN s.L nb 1) (restN s.L nb 2) (s.td nb), .int .i64 0]) := by show _ = _; simp [lookR, hb]
    clear hr
    generalize hn1 : restN s.L (nb : Int) 1 = n1 at *
    generalize hn2 : restN s.L (nb : Int) 2 = n2 at *
    have HN := hide (And.intro hn1 hn2)
    clear hn1 hn2
    cases htr : s.tr nb
    all_goals
      rw [htr] at hT HE
      clear htr
      first | (have HE2 : Hid (lookR s nb = .tuple #[stateV 1 n1 n2 (s.td nb), .int .i64 0]) := unhide HE) | (have HE2 : Hid (lookR s nb = .tuple #[stateV 2 n1 n2 (s.td nb), .int .i64 0]) := unhide HE)
      clear HE
      go_enter Tryz.func67, Tryz.ntmps67
      go_wp2_with (go_at_call 57; refine (in_any _ _ _ _).mono ?_; rintro e w1 ⟨rfl, rfl⟩)
      go_region_held3 (fun w' : World => w'.cell? ⟨bp, 10 + nb, none⟩ = some (.int .i64 (s.td nb))) (go_keep)
        (first
          | (go_at_call 116; refine (resting_any bp v s _ _ _ ((unhide HR).no (by repeat (first | exact Fr.refl _ _ | refine Fr.alloc ?_ _ | refine Fr.drew ?_))) hn).mono ?_; rintro e w2 ⟨rfl, rfl⟩; first | rw [(unhide HN).1] | rw [(unhide HN).2]))
      all_goals
        go_wp2
        rw [unhide HE2]
        refine bodyPost_ret (v := .tuple #[stateV _ n1 n2 (s.td nb), .int .i64 0]) (by simp [results, Tryz.results67, go_sem, stateV]) rfl ⟨rfl, ?_⟩
        repeat (first | exact Fr.refl _ _ | refine Fr.alloc ?_ _ | refine Fr.drew ?_ | refine Fr.setAt ?_ _ (.inl (by omega)) _ _)
end Go.Proofs.YtigpgnjgmaoejaaGreat
