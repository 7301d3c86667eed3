/- How a book lies in memory (PB), and contracts of its side, find, Order, State, full. Conditions: the book lies in memory, at most 1000 orders on a side. -/
import Derived.Test.YtigpgnjgmaoejaaGreatProgD
import Derived.Test.YtigpgnjgmaoejaaGreatRefOP
namespace Go.Proofs.YtigpgnjgmaoejaaGreat
open Go.RowKit

def bookCells (b bx : Nat) (tr : Bool) (td : Int) (v : Nat → Value) : Array Value :=
  #[.int .i64 (if tr = true then 2 else 1), .int .i64 td, .pointer (some ⟨bx, 8, none⟩), v 0, beatsV 1 b 3, v 1, beatsV 2 b 5]

/-- A book: its two sides' slices v 0 and v 1, and what they hold. -/
structure PB (w : World) (b bx : Nat) (tr : Bool) (td : Int) (v : Nat → Value) (M : Nat → List Ord) : Prop where
  blk : w.heap[b]? = some (.cells (bookCells b bx tr td v) 132 (0, 0))
  own : ∀ j, j < 2 → Os w 0 (v j) (M j)
  len : ∀ j, j < 2 → (M j).length ≤ 1000
  ab : ∀ j, j < 2 → ¬ OwnS (v j) b
  ap : ∀ g, OwnS (v 0) g → ¬ OwnS (v 1) g

/-- The blocks of a book. -/
def BS (b : Nat) (v : Nat → Value) : Nat → Prop := fun k => k = b ∨ OwnS (v 0) k ∨ OwnS (v 1) k

theorem PB.lt {w : World} {b bx : Nat} {tr : Bool} {td : Int} {v : Nat → Value} {M : Nat → List Ord} (h : PB w b bx tr td v M) : b < w.heap.size := lt_of_heap h.blk
theorem PB.fr {S : Nat → Prop} {w w' : World} {b bx : Nat} {tr : Bool} {td : Int} {v : Nat → Value} {M : Nat → List Ord} (h : PB w b bx tr td v M) (hf : Fr S w w') (hS : ∀ k, BS b v k → ¬ S k) : PB w' b bx tr td v M :=
  ⟨hf.heap h.blk (hS _ (.inl rfl)), fun j hj => own_fr (h.own j hj) hf (fun g hg => hS g (by
    match j, hj with
    | 0, _ => exact .inr (.inl hg)
    | 1, _ => exact .inr (.inr hg))), h.len, h.ab, h.ap⟩
theorem PB.no {w w' : World} {b bx : Nat} {tr : Bool} {td : Int} {v : Nat → Value} {M : Nat → List Ord} (h : PB w b bx tr td v M) (hf : Fr No w w') : PB w' b bx tr td v M := h.fr hf fun _ _ => id
theorem PB.side0 {w : World} {b bx : Nat} {tr : Bool} {td : Int} {v : Nat → Value} {M : Nat → List Ord} (h : PB w b bx tr td v M) : SideIn w b 3 (bookCells b bx tr td v) 1 (v 0) (M 0) :=
  ⟨h.blk, rfl, rfl, h.own 0 (by omega), h.ab 0 (by omega)⟩
theorem PB.side1 {w : World} {b bx : Nat} {tr : Bool} {td : Int} {v : Nat → Value} {M : Nat → List Ord} (h : PB w b bx tr td v M) : SideIn w b 5 (bookCells b bx tr td v) 2 (v 1) (M 1) :=
  ⟨h.blk, rfl, rfl, h.own 1 (by omega), h.ab 1 (by omega)⟩
theorem PB.cells {w : World} {b bx : Nat} {tr : Bool} {td : Int} {v : Nat → Value} {M : Nat → List Ord} (h : PB w b bx tr td v M) :
    w.cell? ⟨b, 0, none⟩ = some (.int .i64 (if tr = true then 2 else 1)) ∧ w.cell? ⟨b, 1, none⟩ = some (.int .i64 td) ∧ w.cell? ⟨b, 3, none⟩ = some (v 0) ∧ w.cell? ⟨b, 5, none⟩ = some (v 1) :=
  ⟨cell_heap h.blk 0, cell_heap h.blk 1, cell_heap h.blk 3, cell_heap h.blk 5⟩

theorem PB.to0 {w w' : World} {b bx : Nat} {tr : Bool} {td : Int} {v : Nat → Value} {M : Nat → List Ord} {v' : Value} {M' : List Ord} (h : PB w b bx tr td v M) (hs : SideTo w w' b 3 (bookCells b bx tr td v) (v 0) v' M') (hl : M'.length ≤ 1000) :
    PB w' b bx tr td (upd v 0 v') (upd M 0 M') := by
  refine ⟨hs.blk, fun j hj => ?_, fun j hj => ?_, fun j hj => ?_, fun g hg e => ?_⟩
  · match j, hj with
    | 0, _ => exact hs.own
    | 1, _ => exact own_fr (h.own 1 (by omega)) hs.fr (fun g hg e => e.elim (fun e => h.ab 1 (by omega) (e ▸ hg)) (fun e => h.ap g e hg))
  · match j, hj with
    | 0, _ => exact hl
    | 1, _ => exact h.len 1 (by omega)
  · match j, hj with
    | 0, _ => exact fun e => (hs.new b e).elim (h.ab 0 (by omega)) (fun e => by have := h.lt; omega)
    | 1, _ => exact h.ab 1 (by omega)
  · have e : OwnS (v 1) g := e
    exact (hs.new g hg).elim (fun h1 => h.ap g h1 e) (fun h1 => by have := ((h.own 1 (by omega)).lt g e).2; omega)
theorem PB.to1 {w w' : World} {b bx : Nat} {tr : Bool} {td : Int} {v : Nat → Value} {M : Nat → List Ord} {v' : Value} {M' : List Ord} (h : PB w b bx tr td v M) (hs : SideTo w w' b 5 (bookCells b bx tr td v) (v 1) v' M') (hl : M'.length ≤ 1000) :
    PB w' b bx tr td (upd v 1 v') (upd M 1 M') := by
  refine ⟨hs.blk, fun j hj => ?_, fun j hj => ?_, fun j hj => ?_, fun g hg e => ?_⟩
  · match j, hj with
    | 0, _ => exact own_fr (h.own 0 (by omega)) hs.fr (fun g hg e => e.elim (fun e => h.ab 0 (by omega) (e ▸ hg)) (fun e => h.ap g hg e))
    | 1, _ => exact hs.own
  · match j, hj with
    | 0, _ => exact h.len 0 (by omega)
    | 1, _ => exact hl
  · match j, hj with
    | 0, _ => exact h.ab 0 (by omega)
    | 1, _ => exact fun e => (hs.new b e).elim (h.ab 1 (by omega)) (fun e => by have := h.lt; omega)
  · have hg : OwnS (v 0) g := hg
    exact (hs.new g e).elim (fun h1 => h.ap g hg h1) (fun h1 => by have := ((h.own 0 (by omega)).lt g hg).2; omega)

set_option maxHeartbeats 400000 in
theorem bSide_buy (b : Nat) (w : World) : Calls Tryz.prog 55 #[.pointer (some ⟨b, 0, none⟩), .int .i64 1] w fun e w' => e = .returned (.pointer (some ⟨b, 3, none⟩)) ∧ w' = w := by
  go_enter Tryz.func55, Tryz.ntmps55
  go_wp2
  go_ret
  exact ⟨rfl, rfl⟩
set_option maxHeartbeats 400000 in
theorem bSide_sell (b : Nat) (w : World) : Calls Tryz.prog 55 #[.pointer (some ⟨b, 0, none⟩), .int .i64 2] w fun e w' => e = .returned (.pointer (some ⟨b, 5, none⟩)) ∧ w' = w := by
  go_enter Tryz.func55, Tryz.ntmps55
  go_wp2
  go_ret
  exact ⟨rfl, rfl⟩
/-- Where a side lies. -/
def sAt (s : Int) : Nat := if s = 1 then 3 else 5
theorem bSide_any (b : Nat) (s : Int) (hs : s = 1 ∨ s = 2) (w : World) : Calls Tryz.prog 55 #[.pointer (some ⟨b, 0, none⟩), .int .i64 s] w fun e w' => e = .returned (.pointer (some ⟨b, sAt s, none⟩)) ∧ w' = w := by
  rcases hs with rfl | rfl
  · exact bSide_buy b w
  · exact bSide_sell b w

def findR (b : Nat) (M : Nat → List Ord) (id : Int) : Value :=
  match findO (M 0) id with
  | some k => .tuple #[.pointer (some ⟨b, 3, none⟩), .int .i64 (k : Int)]
  | none => match findO (M 1) id with
    | some k => .tuple #[.pointer (some ⟨b, 5, none⟩), .int .i64 (k : Int)]
    | none => .tuple #[.pointer none, .int .i64 (-1)]

theorem enc_neg {o : Option Nat} (h : ¬ 0 ≤ enc o) : o = none := by
  cases o with
  | none => rfl
  | some k => simp [enc] at h
theorem enc_pos {o : Option Nat} (h : 0 ≤ enc o) : ∃ k : Nat, o = some k ∧ enc o = (k : Int) := by
  cases o with
  | none => simp [enc] at h
  | some k => exact ⟨k, rfl, rfl⟩

set_option maxHeartbeats 1000000 in
theorem bFind_any (b bx : Nat) (tr : Bool) (td : Int) (v : Nat → Value) (M : Nat → List Ord) (id : Int) (w : World) (h : PB w b bx tr td v M) :
    Calls Tryz.prog 136 #[.pointer (some ⟨b, 0, none⟩), .int .i64 id] w fun e w' => e = .returned (findR b M id) ∧ w' = w := by
  have HS := hide (And.intro h.side0.at_ h.side1.at_)
  have hl := And.intro (h.len 0 (by omega)) (h.len 1 (by omega))
  have HL := hide hl
  clear h hl
  go_enter Tryz.func136, Tryz.ntmps136
  go_wp2
  go_loop [8] (fun i => ∃ k : Nat, k ≤ 2 ∧ i = .int .i64 k ∧ (1 ≤ k → findO (M 0) id = none) ∧ (2 ≤ k → findO (M 1) id = none)) (fun i => 2 - (intOf i).toNat)
  case atStart => exact ⟨0, by omega, rfl, by omega, by omega⟩
  case round =>
    obtain ⟨k, hk, rfl, h0, h1⟩ := hrel
    match k, hk with
    | 0, _ =>
      go_wp2_with (go_at_call 161; refine (sfind_any b 3 (v 0) (M 0) id _ (unhide HS).1 (by have := (unhide HL).1; omega)).mono ?_; rintro e w1 ⟨rfl, rfl⟩)
      · go_ret2
        obtain ⟨j, hj, he⟩ := enc_pos ‹0 ≤ enc (findO (M 0) id)›
        exact ⟨by rw [he]; simp [findR, hj], rfl⟩
      · go_round
        case rel => exact ⟨1, by omega, by go_num, fun _ => enc_neg (by omega), by omega⟩
        case measure => simp [intOf]
    | 1, _ =>
      have h0' := h0 (by omega)
      have H0 := hide h0'
      clear h0 h1 h0'
      go_wp2_with (go_at_call 161; refine (sfind_any b 5 (v 1) (M 1) id _ (unhide HS).2 (by have := (unhide HL).2; omega)).mono ?_; rintro e w1 ⟨rfl, rfl⟩)
      · go_ret2
        obtain ⟨j, hj, he⟩ := enc_pos ‹0 ≤ enc (findO (M 1) id)›
        exact ⟨by rw [he]; simp [findR, unhide H0, hj], rfl⟩
      · go_round
        case rel => exact ⟨2, by omega, by go_num, fun _ => unhide H0, fun _ => enc_neg (by omega)⟩
        case measure => simp [intOf]
    | 2, _ =>
      have h0' := h0 (by omega)
      have h1' := h1 (by omega)
      have H0 := hide (And.intro h0' h1')
      clear h0 h1 h0' h1'
      go_wp2
      go_ret2
      exact ⟨by simp [findR, (unhide H0).1, (unhide H0).2], rfl⟩
end Go.Proofs.YtigpgnjgmaoejaaGreat

/- Contracts of a book's Order, State, full, Remove, Reopen. Conditions: the book lies in memory, at most 1000 orders on a side. -/
namespace Go.Proofs.YtigpgnjgmaoejaaGreat
open Go.RowKit

def ordR : Option Ord → Value
  | some x => .tuple #[x.val, .bool true]
  | none => .tuple #[zOrd, .bool false]

theorem findR_cases (b : Nat) (M : Nat → List Ord) (id : Int) : (∃ k, ∃ hk : k < (M 0).length, findO (M 0) id = some k ∧ getO M id = some (M 0)[k] ∧ findR b M id = .tuple #[.pointer (some ⟨b, 3, none⟩), .int .i64 (k : Int)]) ∨
    (findO (M 0) id = none ∧ ∃ k, ∃ hk : k < (M 1).length, findO (M 1) id = some k ∧ getO M id = some (M 1)[k] ∧ findR b M id = .tuple #[.pointer (some ⟨b, 5, none⟩), .int .i64 (k : Int)]) ∨
    (findO (M 0) id = none ∧ findO (M 1) id = none ∧ getO M id = none ∧ findR b M id = .tuple #[.pointer none, .int .i64 (-1)]) := by
  cases h0 : findO (M 0) id with
  | some k =>
    have hk := findO_lt' h0
    exact .inl ⟨k, hk, rfl, by simp [getO, h0, List.getElem?_eq_getElem hk], by simp [findR, h0]⟩
  | none =>
    cases h1 : findO (M 1) id with
    | some k =>
      have hk := findO_lt' h1
      exact .inr (.inl ⟨rfl, k, hk, rfl, by simp [getO, h0, h1, List.getElem?_eq_getElem hk], by simp [findR, h0, h1]⟩)
    | none => exact .inr (.inr ⟨rfl, rfl, by simp [getO, h0, h1], by simp [findR, h0, h1]⟩)

set_option maxHeartbeats 1000000 in
theorem bOrder_any (b bx : Nat) (tr : Bool) (td : Int) (v : Nat → Value) (M : Nat → List Ord) (id : Int) (w : World) (h : PB w b bx tr td v M) :
    Calls Tryz.prog 128 #[.pointer (some ⟨b, 0, none⟩), .int .i64 id] w fun e w' => e = .returned (ordR (getO M id)) ∧ Fr No w w' := by
  have HB := hide h
  have hblt := h.lt
  have hl0 := h.len 0 (by omega)
  have hl1 := h.len 1 (by omega)
  rcases findR_cases b M id with ⟨k, hk, _, hg, hr⟩ | ⟨_, k, hk, _, hg, hr⟩ | ⟨_, _, hg, hr⟩
  · obtain ⟨a, cap, hv⟩ := h.side0.at_.form
    have hc := h.cells.2.2.1
    have ho := h.own 0 (by omega)
    rw [hv] at hc ho
    obtain ⟨g, rfl, hgl, _, c0, c1, c2, c3, c4, c5, _⟩ := os_at ho k hk
    have HR := hide (And.intro hg hr)
    clear h ho hg hr hv
    generalize (M 0)[k] = x at *
    generalize (M 0).length = n at *
    go_enter Tryz.func128, Tryz.ntmps128
    go_wp2_with (go_at_call 136; refine (bFind_any b bx tr td v M id _ ((unhide HB).no (by repeat (first | exact Fr.refl _ _ | refine Fr.drew ?_ | refine Fr.alloc ?_ _)))).mono ?_; rintro e w1 ⟨rfl, rfl⟩; rw [(unhide HR).2])
    rw [(unhide HR).1]
    exact bodyPost_ret (v := .tuple #[x.val, .bool true]) (by simp [results, Tryz.results128, go_sem, Ord.val]) rfl ⟨rfl, (Fr.refl _ _).alloc _⟩
  · obtain ⟨a, cap, hv⟩ := h.side1.at_.form
    have hc := h.cells.2.2.2
    have ho := h.own 1 (by omega)
    rw [hv] at hc ho
    obtain ⟨g, rfl, hgl, _, c0, c1, c2, c3, c4, c5, _⟩ := os_at ho k hk
    have HR := hide (And.intro hg hr)
    clear h ho hg hr hv
    generalize (M 1)[k] = x at *
    generalize (M 1).length = n at *
    go_enter Tryz.func128, Tryz.ntmps128
    go_wp2_with (go_at_call 136; refine (bFind_any b bx tr td v M id _ ((unhide HB).no (by repeat (first | exact Fr.refl _ _ | refine Fr.drew ?_ | refine Fr.alloc ?_ _)))).mono ?_; rintro e w1 ⟨rfl, rfl⟩; rw [(unhide HR).2])
    rw [(unhide HR).1]
    exact bodyPost_ret (v := .tuple #[x.val, .bool true]) (by simp [results, Tryz.results128, go_sem, Ord.val]) rfl ⟨rfl, (Fr.refl _ _).alloc _⟩
  · have HR := hide (And.intro hg hr)
    clear h hg hr
    go_enter Tryz.func128, Tryz.ntmps128
    go_wp2_with (go_at_call 136; refine (bFind_any b bx tr td v M id _ ((unhide HB).no (by repeat (first | exact Fr.refl _ _ | refine Fr.drew ?_ | refine Fr.alloc ?_ _)))).mono ?_; rintro e w1 ⟨rfl, rfl⟩; rw [(unhide HR).2])
    rw [(unhide HR).1]
    exact bodyPost_ret (v := .tuple #[zOrd, .bool false]) (by simp [results, Tryz.results128, go_sem, zOrd]) rfl ⟨rfl, (Fr.refl _ _).alloc _⟩

set_option maxHeartbeats 1000000 in
theorem bFull_any (b bx : Nat) (tr : Bool) (td : Int) (v : Nat → Value) (M : Nat → List Ord) (w : World) (h : PB w b bx tr td v M) :
    Calls Tryz.prog 131 #[.pointer (some ⟨b, 0, none⟩)] w fun e w' => e = .returned (.bool (decide (200 ≤ (M 0).length + (M 1).length))) ∧ w' = w := by
  obtain ⟨a0, cap0, hv0⟩ := h.side0.at_.form
  obtain ⟨a1, cap1, hv1⟩ := h.side1.at_.form
  have hc0 := h.cells.2.2.1
  have hc1 := h.cells.2.2.2
  rw [hv0] at hc0
  rw [hv1] at hc1
  have hl0 := h.len 0 (by omega)
  have hl1 := h.len 1 (by omega)
  clear h hv0 hv1
  generalize (M 0).length = n0 at *
  generalize (M 1).length = n1 at *
  go_enter Tryz.func131, Tryz.ntmps131
  go_wp2
  go_loop [3, 5] (fun r i => ∃ k : Nat, k ≤ 2 ∧ i = .int .i64 k ∧ r = .int .i64 ((if k = 0 then 0 else if k = 1 then n0 else n0 + n1 : Nat) : Int)) (fun _ i => 2 - (intOf i).toNat)
  case atStart => exact ⟨0, by omega, rfl, rfl⟩
  case round =>
    obtain ⟨k, hk, rfl, rfl⟩ := hrel
    match k, hk with
    | 0, _ =>
      go_wp2
      go_round
      case rel => exact ⟨1, by omega, by go_num, by go_num⟩
      case measure => simp [intOf]
    | 1, _ =>
      simp only [show ¬ ((1 : Nat) = 0) by decide, if_false, if_true]
      go_wp2
      go_round
      case rel => exact ⟨2, by omega, by go_num, by go_num⟩
      case measure => simp [intOf]
    | 2, _ =>
      simp only [show ¬ ((2 : Nat) = 0) by decide, show ¬ ((2 : Nat) = 1) by decide, if_false]
      go_wp2
      go_ret
      refine ⟨retB ?_, rfl⟩
      rw [Bool.eq_iff_iff]
      simp only [decide_eq_true_eq]
      omega
end Go.Proofs.YtigpgnjgmaoejaaGreat
