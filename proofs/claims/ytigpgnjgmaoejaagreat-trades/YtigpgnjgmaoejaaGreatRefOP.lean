/- Contracts of the document's Volume, Order and Look. Conditions: the pit lies in memory, fewer than 100001 orders rest, what was traded is within bounds. -/
import Derived.Test.YtigpgnjgmaoejaaGreatRefE
import Derived.Test.YtigpgnjgmaoejaaGreatRefHK
import Derived.Deep.LoopGhost
import Derived.Test.YtigpgnjgmaoejaaGreatLay
namespace Go.Proofs.YtigpgnjgmaoejaaGreat
open Go.RowKit

theorem inB_true' {n lo hi : Int} (h : inB n lo hi = true) : lo ≤ n ∧ n ≤ hi := by simpa [inB] using h

def volTo (td : Nat → Int) : Nat → Int
  | 0 => 0
  | k + 1 => volTo td k + td (k + 1)

theorem volTo_le {td : Nat → Int} (h : ∀ k, 0 ≤ td k ∧ td k ≤ 1000000000000000) : ∀ k : Nat, 0 ≤ volTo td k ∧ volTo td k ≤ 1000000000000000 * k
  | 0 => by simp [volTo]
  | k + 1 => by have := volTo_le h k; have := h (k + 1); simp only [volTo]; omega

set_option maxHeartbeats 1000000 in
theorem volume_any (bp : Nat) (v : Value) (s : Ref) (w : World) (hr : RefAt w bp v s) (htd : ∀ k, 0 ≤ s.td k ∧ s.td k ≤ 1000000000000000) :
    Calls Tryz.prog 38 #[.pointer (some ⟨bp, 0, none⟩)] w fun e w' => e = .returned (.int .i64 (volTo s.td 8)) ∧ Fr No w w' := by
  have HR := hide hr
  have HD := hide htd
  clear hr htd
  go_enter Tryz.func38, Tryz.ntmps38
  go_wp2
  go_loopw [3, 4] (fun n i wr => ∃ k : Nat, k ≤ 8 ∧ i = .int .i64 ((k : Int) + 1) ∧ n = .int .i64 (volTo s.td k) ∧ ∃ m, wr = w.drewN m) (fun _ i _ => 9 - (intOf i).toNat)
  case atStart => exact ⟨0, by omega, rfl, rfl, 0, rfl⟩
  case round =>
    obtain ⟨k, hk, rfl, rfl, m, rfl⟩ := hrel
    by_cases hlt : k < 8
    · have hc := (unhide HR).cellTd (k + 1) (by omega)
      obtain ⟨hx0, hb1⟩ := volTo_le (unhide HD) k
      have hb2 := unhide HD (k + 1)
      have HS : Hid (volTo s.td (k + 1) = volTo s.td k + s.td (k + 1)) := rfl
      generalize volTo s.td k = x at *
      generalize s.td (k + 1) = y at *
      have hk1 : x ≤ 1000000000000000 * 8 := by omega
      clear hb1
      go_wp2
      go_roundw
      case rel => exact ⟨k + 1, by omega, by go_num, by rw [unhide HS], m, rfl⟩
      case measure => simp [intOf]; omega
    · have hk8 : k = 8 := by omega
      subst hk8
      go_wp2
      go_ret
      exact ⟨rfl, (Fr.refl _ _).drewN _⟩

def orderR (L : List Ord) (id : Int) : Value :=
  match findO L id with
  | none => .tuple #[zOrd, .int .i64 4]
  | some i => match L[i]? with
    | none => .tuple #[zOrd, .int .i64 4]
    | some x => .tuple #[x.val, .int .i64 0]

theorem findO_lt' {L : List Ord} {id : Int} {i : Nat} (h : findO L id = some i) : i < L.length := by
  unfold findO at h
  exact (List.findIdx?_eq_some_iff_getElem.1 h).1

set_option maxHeartbeats 1000000 in
theorem order_any (bp : Nat) (v : Value) (s : Ref) (id : Int) (w : World) (hr : RefAt w bp v s) (hn : s.L.length ≤ 100000) :
    Calls Tryz.prog 69 #[.pointer (some ⟨bp, 0, none⟩), .int .i64 id] w fun e w' => e = .returned (orderR s.L id) ∧ Fr No w w' := by
  have HR := hide hr
  have hbp := hr.lt
  have hL := hr.cellL
  obtain ⟨a, cap, rfl⟩ := hr.form
  cases hf : findO s.L id with
  | none =>
    have HE : Hid (orderR s.L id = .tuple #[zOrd, .int .i64 4]) := by show _ = _; simp [orderR, hf]
    have HK := hide hf
    clear hr hf
    go_enter Tryz.func69, Tryz.ntmps69
    go_wp2_with (go_at_call 113; refine (find_any bp _ s _ _ ((unhide HR).no ((Fr.refl _ _).alloc _)) hn).mono ?_; rintro e w1 ⟨rfl, rfl⟩; rw [unhide HK, show enc none = -1 from rfl])
    rw [unhide HE]
    exact bodyPost_ret (v := .tuple #[zOrd, .int .i64 4]) (by simp [results, Tryz.results69, go_sem, zOrd]) rfl ⟨rfl, (Fr.refl _ _).alloc _⟩
  | some i =>
    have hi := findO_lt' hf
    obtain ⟨g, rfl, hg, _, hc0, hc1, hc2, hc3, hc4, hc5, _⟩ := os_at hr.own i hi
    have HE : Hid (orderR s.L id = .tuple #[s.L[i].val, .int .i64 0]) := by show _ = _; simp [orderR, hf, List.getElem?_eq_getElem hi]
    have HK := hide hf
    have hin : (i : Int) < (s.L.length : Int) := by omega
    clear hr hf
    go_enter Tryz.func69, Tryz.ntmps69
    go_wp2_with (go_at_call 113; refine (find_any bp _ s _ _ ((unhide HR).no ((Fr.refl _ _).alloc _)) hn).mono ?_; rintro e w1 ⟨rfl, rfl⟩; rw [unhide HK, show enc (some i) = (i : Int) from rfl])
    rw [unhide HE]
    exact bodyPost_ret (v := .tuple #[s.L[i].val, .int .i64 0]) (by simp [results, Tryz.results69, go_sem, Ord.val]) rfl ⟨rfl, (Fr.refl _ _).alloc _⟩

def stateV (p b s t : Int) : Value := .agg #[.int .i64 p, .int .i64 b, .int .i64 s, .int .i64 t]
def lookR (s : Ref) (b : Int) : Value :=
  if inB b 1 8 = true then .tuple #[stateV (if s.tr b.toNat = true then 2 else 1) (restN s.L b 1) (restN s.L b 2) (s.td b.toNat), .int .i64 0]
  else .tuple #[stateV 0 0 0 0, .int .i64 2]

set_option maxHeartbeats 2000000 in
theorem look_any (bp : Nat) (v : Value) (s : Ref) (b : Int) (w : World) (hr : RefAt w bp v s) (hn : s.L.length ≤ 100000) :
    Calls Tryz.prog 67 #[.pointer (some ⟨bp, 0, none⟩), .int .i64 b] w fun e w' => e = .returned (lookR s b) ∧ Fr No w w' := by
  have HR := hide hr
  have hbp := hr.lt
  cases hb : inB b 1 8 with
  | false =>
    have HE : Hid (lookR s b = .tuple #[stateV 0 0 0 0, .int .i64 2]) := by show _ = _; simp [lookR, hb]
    clear hr
    go_enter Tryz.func67, Tryz.ntmps67
    go_wp2_with (go_at_call 57; refine (in_any _ _ _ _).mono ?_; rintro e w1 ⟨rfl, rfl⟩)
    rw [unhide HE]
    exact bodyPost_ret (v := .tuple #[stateV 0 0 0 0, .int .i64 2]) (by simp [results, Tryz.results67, go_sem, stateV]) rfl ⟨rfl, (Fr.refl _ _).alloc _⟩
  | true =>
    obtain ⟨h1, h8⟩ := inB_true' hb
    obtain ⟨nb, rfl⟩ := Int.eq_ofNat_of_zero_le (by omega : 0 ≤ b)
    have h9 : (nb : Int) < 9 := by omega
    have h9' : nb < 9 := by omega
    have h0' : (0 : Int) ≤ (nb : Int) := by omega
    have hT := hr.cellTr nb (by omega)
    have hD := hr.cellTd nb (by omega)
    have HE : Hid (lookR s nb = .tuple #[stateV (if s.tr nb = true then 2 else 1) (restN s.L nb 1) (restN s.L nb 2) (s.td nb), .int .i64 0]) := by show _ = _; simp [lookR, hb]
    clear hr
    generalize hn1 : restN s.L (nb : Int) 1 = n1 at *
    generalize hn2 : restN s.L (nb : Int) 2 = n2 at *
    have HN := hide (And.intro hn1 hn2)
    clear hn1 hn2
    cases htr : s.tr nb
    all_goals
      rw [htr] at hT HE
      clear htr
      first | (have HE2 : Hid (lookR s nb = .tuple #[stateV 1 n1 n2 (s.td nb), .int .i64 0]) := unhide HE) | (have HE2 : Hid (lookR s nb = .tuple #[stateV 2 n1 n2 (s.td nb), .int .i64 0]) := unhide HE)
      clear HE
      go_enter Tryz.func67, Tryz.ntmps67
      go_wp2_with (go_at_call 57; refine (in_any _ _ _ _).mono ?_; rintro e w1 ⟨rfl, rfl⟩)
      go_region_held3 (fun w' : World => w'.cell? ⟨bp, 10 + nb, none⟩ = some (.int .i64 (s.td nb))) (go_keep)
        (first
          | (go_at_call 116; refine (resting_any bp v s _ _ _ ((unhide HR).no (by repeat (first | exact Fr.refl _ _ | refine Fr.alloc ?_ _ | refine Fr.drew ?_))) hn).mono ?_; rintro e w2 ⟨rfl, rfl⟩; first | rw [(unhide HN).1] | rw [(unhide HN).2]))
      all_goals
        go_wp2
        rw [unhide HE2]
        refine bodyPost_ret (v := .tuple #[stateV _ n1 n2 (s.td nb), .int .i64 0]) (by simp [results, Tryz.results67, go_sem, stateV]) rfl ⟨rfl, ?_⟩
        repeat (first | exact Fr.refl _ _ | refine Fr.alloc ?_ _ | refine Fr.drew ?_ | refine Fr.setAt ?_ _ (.inl (by omega)) _ _)
end Go.Proofs.YtigpgnjgmaoejaaGreat

/- Contract of the document's Depth. Conditions: the pit lies in memory, fewer than 100001 orders rest, what is open of each is from 0 to 1000000. -/
namespace Go.Proofs.YtigpgnjgmaoejaaGreat
open Go.RowKit

/-- An order is added to the levels: to the last one, if it has its price. -/
def addLev (l : List Lev) (x : Ord) : List Lev :=
  match l.getLast? with
  | none => [⟨x.price, x.opn, 1⟩]
  | some y => if y.price = x.price then l.dropLast ++ [⟨y.price, y.count + x.opn, y.orders + 1⟩] else l ++ [⟨x.price, x.opn, 1⟩]

def dWhile (b s : Int) : Nat → List Ord → List Lev → List Lev
  | 0, _, l => l
  | f + 1, L, l => match bestO L b s with
    | none => l
    | some i => match L[i]? with
      | none => l
      | some x => dWhile b s f (L.eraseIdx i) (addLev l x)

def levelsO (L : List Ord) (b s : Int) : List Lev := dWhile b s L.length L []
def cutTo (most : Int) (l : List Lev) : List Lev := if 0 ≤ most ∧ most < l.length then l.take most.toNat else l

theorem dWhile_none {b s : Int} {f : Nat} {L : List Ord} {l : List Lev} (h : bestO L b s = none) : dWhile b s f L l = l := by
  cases f with
  | zero => rfl
  | succ f => simp [dWhile, h]
theorem dWhile_some {b s : Int} {f : Nat} {L : List Ord} {l : List Lev} {i : Nat} (hi : i < L.length) (h : bestO L b s = some i) : dWhile b s (f + 1) L l = dWhile b s f (L.eraseIdx i) (addLev l L[i]) := by
  simp [dWhile, h, List.getElem?_eq_getElem hi]

/-- The levels' numbers are within bounds. -/
def LevOk (n : Nat) (l : List Lev) : Prop := l.length ≤ n ∧ ∀ y ∈ l, 0 ≤ y.count ∧ y.count ≤ 1000000 * n ∧ 0 ≤ y.orders ∧ y.orders ≤ n
theorem LevOk.add {n : Nat} {l : List Lev} {x : Ord} (h : LevOk n l) (hx : 0 ≤ x.opn ∧ x.opn ≤ 1000000) : LevOk (n + 1) (addLev l x) := by
  obtain ⟨hl, ha⟩ := h
  have up : ∀ y ∈ l, 0 ≤ y.count ∧ y.count ≤ 1000000 * ((n + 1 : Nat) : Int) ∧ 0 ≤ y.orders ∧ y.orders ≤ ((n + 1 : Nat) : Int) := fun y hy => by have := ha y hy; omega
  unfold addLev
  split
  · refine ⟨by simp, fun y hy => ?_⟩
    simp only [List.mem_cons, List.not_mem_nil, or_false] at hy
    subst hy
    simp only; omega
  · rename_i y hy
    have hm := List.mem_of_getLast? hy
    have hy2 := ha y hm
    split
    · refine ⟨by simp; have := List.length_pos_of_mem hm; omega, fun z hz => ?_⟩
      rcases List.mem_append.1 hz with hz | hz
      · exact up z ((List.dropLast_sublist l).subset hz)
      · simp only [List.mem_cons, List.not_mem_nil, or_false] at hz; subst hz; simp only; omega
    · refine ⟨by simp; omega, fun z hz => ?_⟩
      rcases List.mem_append.1 hz with hz | hz
      · exact up z hz
      · simp only [List.mem_cons, List.not_mem_nil, or_false] at hz; subst hz; simp only; omega

/-- The first ones of a list of records. -/
theorem own_take {α : Type} {f : α → List Value} {s : Nat} (hs : ∀ a, (f a).length = s) {w : World} {base : Nat} {e : TypeId} {g n cap : Nat} {L : List α}
    (h : w.ownsRow base e s (.slice (some ⟨g, 0, none⟩) n cap) L.length (L.flatMap f)) (m : Nat) (hm : m ≤ L.length) :
    w.ownsRow base e s (.slice (some ⟨g, 0, none⟩) m cap) (L.take m).length ((L.take m).flatMap f) := by
  have hl : (L.take m).length = m := by simp; omega
  refine ⟨flat_len hs _, ?_⟩
  rcases h.2 with ⟨h0, _⟩ | ⟨g', cap', cur, hv, hb, hg, hn, hmx, hcs, ht⟩
  · cases h0
  · simp only [Value.slice.injEq, Option.some.injEq, Addr.mk.injEq, and_true] at hv
    obtain ⟨rfl, rfl, rfl⟩ := hv
    refine .inr ⟨g, cap, cur, by rw [hl], hb, hg, by omega, hmx, hcs, ?_⟩
    have h1 : L.flatMap f = (L.take m).flatMap f ++ (L.drop m).flatMap f := by rw [← List.flatMap_append, List.take_append_drop]
    have h2 : ((L.take m).flatMap f).length = (L.take m).length * s := flat_len hs _
    have h3 : cur.toList.take ((L.take m).length * s) = (cur.toList.take (L.length * s)).take ((L.take m).length * s) := by
      rw [List.take_take, Nat.min_eq_left (Nat.mul_le_mul_right _ (by omega))]
    rw [h3, ht, h1, ← h2]
    exact List.take_left

def depthPost (w : World) (l : List Lev) (e : Ending) (w' : World) : Prop := ∃ r, e = .returned (.tuple #[r, .int .i64 0]) ∧ Ls w' w.heap.size r l ∧ Fr No w w'

set_option maxHeartbeats 1000000 in
theorem depth_bad (bp : Nat) (b sd most : Int) (w : World) (hbad : inB b 1 8 = false ∨ sideOk sd = false) :
    Calls Tryz.prog 64 #[.pointer (some ⟨bp, 0, none⟩), .int .i64 b, .int .i64 sd, .int .i64 most] w fun e w' => e = .returned (.tuple #[.slice none 0 0, .int .i64 2]) ∧ Fr No w w' := by
  have hb : inB b 1 8 = false ∨ ((sd != 1) = true ∧ (sd != 2) = true) := by
    refine hbad.imp id fun h => ?_
    simp [sideOk] at h; simp [h]
  clear hbad
  cases hc : inB b 1 8 with
  | false =>
    clear hb
    go_enter Tryz.func64, Tryz.ntmps64
    go_wp2_with (go_at_call 57; refine (in_any _ _ _ _).mono ?_; rintro e w1 ⟨rfl, rfl⟩)
    go_ret2
    exact ⟨rfl, Fr.refl _ _⟩
  | true =>
    obtain ⟨h1, h2⟩ := hb.resolve_left (by rw [hc]; simp)
    clear hb
    go_enter Tryz.func64, Tryz.ntmps64
    go_wp2_with (go_at_call 57; refine (in_any _ _ _ _).mono ?_; rintro e w1 ⟨rfl, rfl⟩)
    go_ret2
    exact ⟨rfl, Fr.refl _ _⟩

theorem depth_app {w wr w3 w4 w7 : World} {v2 l : Value} {R : Ref} {g7 n7 c7 : Nat}
    (hq6 : RefAt w3 w.heap.size v2 R) (hv6 : ∀ g, v2.ownBlock = some g → wr.heap.size ≤ g) (hf6 : Fr No w w3)
    (hwr : w.heap.size < wr.heap.size) (hl : ∀ g, l.ownBlock = some g → w.heap.size + 1 ≤ g ∧ g < wr.heap.size) (h34 : Fr No w3 w4) (hfr7 : Fr (OwnS l) w4 w7) (hat7 : l.ownBlock = some g7 ∨ g7 = w4.heap.size) :
    RefAt w7 w.heap.size v2 R ∧ (∀ g, v2.ownBlock = some g → w.heap.size + 1 ≤ g) ∧ (∀ g, (Value.slice (some ⟨g7, 0, none⟩) n7 c7).ownBlock = some g → v2.ownBlock ≠ some g) ∧ Fr No w w7 := by
  have hlt := hq6.lt
  have hvl : ∀ g, v2.ownBlock = some g → g < w3.heap.size := fun g hg => (hq6.own.lt g hg).2
  refine ⟨(hq6.no h34).fr hfr7 (fun e => ?_) (fun g hg e => ?_), fun g hg => ?_, fun g hg hg' => ?_, (hf6.quiet h34).trans hfr7 (fun g hg e => ?_)⟩
  · have := (hl _ e).1; omega
  · have := (hl _ e).2; have := hv6 g hg; omega
  · have h1 := hv6 g hg
    omega
  · have := own_eq hg
    have := hv6 g hg'
    have := hvl g hg'
    have := h34.size
    rcases hat7 with h | h
    · have := (hl _ h).2; omega
    · omega
  · have := (hl _ e).1; omega

set_option maxRecDepth 100000 in
set_option maxHeartbeats 4000000 in
theorem depth_any (bp : Nat) (v : Value) (s : Ref) (b sd most : Int) (w : World) (hr : RefAt w bp v s) (hn : s.L.length ≤ 100000) (hop : ∀ o ∈ s.L, 0 ≤ o.opn ∧ o.opn ≤ 1000000)
    (hb : inB b 1 8 = true) (hs : sd = 1 ∨ sd = 2) :
    Calls Tryz.prog 64 #[.pointer (some ⟨bp, 0, none⟩), .int .i64 b, .int .i64 sd, .int .i64 most] w (depthPost w (cutTo most (levelsO s.L b sd))) := by
  obtain ⟨a, cap, rfl⟩ := hr.form
  have HR := hide hr
  have hL := hr.cellL
  have hbp := hr.lt
  have HOP := hide hop
  clear hr hop
  generalize hnn : s.L.length = n at *
  have Hn := hide hnn
  clear hnn
  have hs1 : (sd != 1) = false ∨ ((sd != 1) = true ∧ (sd != 2) = false) := by rcases hs with rfl | rfl <;> simp
  clear hs
  generalize hG : cutTo most (levelsO s.L b sd) = G
  have HG := hide hG
  clear hG
  rcases hs1 with hs1 | ⟨hs1, hs2⟩
  all_goals
    go_enter Tryz.func64, Tryz.ntmps64
    go_wp2_with (go_at_call 57; refine (in_any _ _ _ _).mono ?_; rintro e w1 ⟨rfl, hw1⟩; have hw2 := hw1.symm; subst hw2)
    go_loopw [12] (fun i wr => ∃ k : Nat, ∃ vq, k ≤ n ∧ i = .int .i64 k ∧ RefAt wr w.heap.size vq (refNil (s.L.take k)) ∧ Fr No w wr ∧ (∀ g, vq.ownBlock = some g → w.heap.size + 1 ≤ g)) (fun i _ => n - (intOf i).toNat)
    case atStart =>
      exact ⟨0, .slice none 0 0, Nat.zero_le _, rfl, ⟨heap_alloc_new w _, World.ownsRow_nil _ _ _ _, by simp [Value.ownBlock]⟩, (Fr.refl _ _).alloc _, by simp [Value.ownBlock]⟩
    case round =>
      obtain ⟨k, vq, hk, rfl, hq, hfr, hvq⟩ := hrel
      have hr2 := (unhide HR).no hfr
      have hL2 := hr2.cellL
      have hbp2 := hr2.lt
      have hbq := hq.lt
      have hsz := hfr.size
      by_cases hlt : k < n
      · have hlt' : k < s.L.length := by rw [unhide Hn]; exact hlt
        obtain ⟨g, rfl, hg, _, hc0, hc1, hc2, hc3, hc4, hc5, _⟩ := os_at hr2.own k hlt'
        have HS := hide (List.take_succ_eq_append_getElem hlt')
        have hslN : (s.L.take k).length ≤ 100000 := by simp; omega
        generalize hsub : s.L.take k = sub at *
        obtain ⟨aq, cq, rfl⟩ := hq.form
        have hLq := hq.cellL
        have hfq := hq.frozen 0
        have HQ := hide hq
        have HE := hide hvq
        have HF := hide hfr
        clear hq hfr hr2 hL hsub hvq
        go_wp2
        go_region_law (refine step_ord rfl (.tmp 43) (.tmp 51) rfl (w.heap.size + 1) _ sub (own_fr (S := No) (own_base (unhide HQ).own (unhide HE)) (by repeat (first | exact Fr.refl _ _ | refine Fr.drew ?_ | refine Fr.alloc ?_ _)) (fun _ _ => id)) (by simp [Act.eval, refNil]) ⟨wr.heap.size, 0, none⟩ 1 1 [s.L[k]] (by simp [Act.eval]) rfl (by simp) (new_cells wr.drew s.L[k].cells _) (by simp; omega) (by simp; omega) ?_; intro g1 c1 w1 hown1 hfr1 hat1 hlt1; have hf1w : Fr (OwnS (.slice aq (refNil sub).L.length cq)) wr w1 := Fr.same (by repeat (first | exact Fr.refl _ _ | refine Fr.drew ?_ | refine Fr.alloc ?_ _)) hfr1; have hb1 := hf1w.heap (unhide HQ).blk (unhide HQ).apart; have hf1 := frozen_heap hb1 0; have hl1 : w1.cell? ⟨w.heap.size, 0, none⟩ = some (.slice aq (refNil sub).L.length cq) := cell_heap hb1 0; have HH := hide (And.intro hown1 (And.intro hf1w (And.intro hat1 hb1))); clear hown1 hf1w hat1 hb1 hfr1)
        all_goals
          obtain ⟨hown1, hf1w, hat1, hb1⟩ := unhide HH
          have hvq := unhide HE
          have hgw : w.heap.size + 1 ≤ g1 := by
            rcases hat1 with h | h
            · exact hvq g1 h
            · simp at h; omega
          generalize hW2 : World.setCell w1 _ _ = W2
          have hq3 : RefAt W2 w.heap.size (.slice (some ⟨g1, 0, none⟩) (sub.length + 1) c1) (refNil (sub ++ [s.L[k]])) := by
            rw [← hW2]
            exact ref_store (s := refNil sub) hb1 hown1 (fun j hj => by have := own_eq hj; omega)
          have hf3 : Fr (RefS w.heap.size (.slice aq (refNil sub).L.length cq)) wr W2 := by
            rw [← hW2]; exact Fr.setAt (S := RefS w.heap.size (.slice aq (refNil sub).L.length cq)) (hf1w.mono fun i _ hi => Or.inr hi) w.heap.size (.inr (Or.inl rfl)) 0 _
          have hfa : Fr No w W2 := (unhide HF).trans hf3 (fun j hj e => by
            rcases e with e | e
            · omega
            · have := hvq j e; omega)
          have HX := hide (And.intro hq3 (And.intro hfa hgw))
          clear HH hq3 hfa hf3 hW2 hown1 hf1w hat1 hb1 hvq hgw
          go_wp2
          go_roundw
          case rel =>
            obtain ⟨hq3, hfa, hgw⟩ := unhide HX
            exact ⟨k + 1, _, by omega, by go_num, by rw [unhide HS]; exact hq3, hfa, fun j hj => by have := own_eq hj; omega⟩
          case measure => simp [intOf]; omega
      · have hkn : k = s.L.length := by have := unhide Hn; omega
        have htk : s.L.take k = s.L := List.take_of_length_le (by omega)
        rw [htk] at hq
        have hll : s.L.length ≤ 100000 := by have := unhide Hn; omega
        have HQ := hide (And.intro hq (And.intro hfr hvq))
        clear hq hfr hvq hr2 hL hkn htk
        go_wp2_with fail
        refine (best_any w.heap.size vq (refNil s.L) b sd wr (unhide HQ).1 hll).mono ?_
        rintro e w1 ⟨rfl, hf1⟩
        have HQ1 := hide (And.intro ((unhide HQ).1.no hf1) (And.intro ((unhide HQ).2.1.quiet hf1) (unhide HQ).2.2))
        clear hf1
        go_wp2
        go_loopg [13, 14] s.L.length (fun f l at_ wr => ∃ L lv m, ∃ vq, at_ = .int .i64 (enc (bestO L b sd)) ∧ RefAt wr w.heap.size vq (refNil L) ∧ (∀ g, vq.ownBlock = some g → w.heap.size + 1 ≤ g) ∧ Ls wr (w.heap.size + 1) l lv ∧ (∀ g, l.ownBlock = some g → vq.ownBlock ≠ some g) ∧ Fr No w wr ∧ dWhile b sd f L lv = levelsO s.L b sd ∧ L.length ≤ f ∧ LevOk m lv ∧ m + L.length ≤ 100000 ∧ ∀ o ∈ L, 0 ≤ o.opn ∧ o.opn ≤ 1000000)
        case atStart => exact ⟨s.L, [], 0, vq, rfl, (unhide HQ1).1, (unhide HQ1).2.2, World.ownsRow_nil _ _ _ _, by simp [Value.ownBlock], (unhide HQ1).2.1, rfl, Nat.le_refl _, ⟨by simp, by simp⟩, by omega, unhide HOP⟩
        case round =>
          obtain ⟨L, lv, m, vq2, rfl, hq2, hvq2, hls, hlq, hfr2, hdw, hle, hok, hmL, hop⟩ := hrel
          cases hbo : bestO L b sd with
          | none =>
            have HGE : Hid (cutTo most lv = G) := by show _ = _; rw [← unhide HG, ← hdw, dWhile_none hbo]
            obtain ⟨al, cl, rfl, hcl, _⟩ := own_form hls
            have hlv : lv.length ≤ 100000 := by have := hok.1; omega
            have HL := hide (And.intro hls hfr2)
            rw [show enc none = -1 from rfl]
            clear hq2 hvq2 hls hlq hfr2 hdw hok hop hbo
            by_cases hm0 : 0 ≤ most
            · by_cases hml : most < lv.length
              · have HGT : Hid (G = lv.take most.toNat) := by show _ = _; rw [← unhide HGE, cutTo, if_pos ⟨hm0, hml⟩]
                obtain ⟨mo, rfl⟩ := Int.eq_ofNat_of_zero_le hm0
                obtain ⟨g9, rfl, hg9⟩ : ∃ g9, al = some ⟨g9, 0, none⟩ ∧ True := by
                  obtain ⟨g9, h9, _⟩ := ls_at (unhide HL).1 0 (by omega)
                  exact ⟨g9, h9, trivial⟩
                have hmc : (mo : Int) ≤ (cl : Int) := by omega
                go_wp2
                go_ret2
                refine ⟨_, rfl, ?_, (unhide HL).2⟩
                rw [unhide HGT]
                exact own_base (own_take Lev.len (unhide HL).1 mo (by omega)) (fun g hg => by have := own_eq hg; have := ((unhide HL).1.lt g9 rfl).1; omega)
              · have hml' : decide (most < (lv.length : Int)) = false := by simpa using hml
                have HGT : Hid (G = lv) := by show _ = _; rw [← unhide HGE, cutTo, if_neg (fun h => hml h.2)]
                clear hml
                go_wp2
                go_ret2
                refine ⟨_, rfl, ?_, (unhide HL).2⟩
                rw [unhide HGT]
                exact own_base (unhide HL).1 (fun g hg => by have := ((unhide HL).1.lt g hg).1; omega)
            · have hm0' : decide (0 ≤ most) = false := by simpa using hm0
              have HGT : Hid (G = lv) := by show _ = _; rw [← unhide HGE, cutTo, if_neg (fun h => hm0 h.1)]
              clear hm0
              go_wp2
              go_ret2
              refine ⟨_, rfl, ?_, (unhide HL).2⟩
              rw [unhide HGT]
              exact own_base (unhide HL).1 (fun g hg => by have := ((unhide HL).1.lt g hg).1; omega)
          | some i =>
            have hi := bestO_lt hbo
            obtain ⟨f, rfl⟩ : ∃ f, gk = f + 1 := ⟨gk - 1, by omega⟩
            have HDW : Hid (dWhile b sd f (L.eraseIdx i) (addLev lv L[i]) = levelsO s.L b sd) := (dWhile_some hi hbo).symm.trans hdw
            have HLE : Hid ((L.eraseIdx i).length ≤ f ∧ (m + 1) + (L.eraseIdx i).length ≤ 100000) := by show _ ∧ _; rw [List.length_eraseIdx, if_pos hi]; omega
            have hxo := hop _ (List.getElem_mem hi)
            have HOK : Hid (LevOk (m + 1) (addLev lv L[i])) := hok.add hxo
            have HOP2 : Hid (∀ o ∈ L.eraseIdx i, 0 ≤ o.opn ∧ o.opn ≤ 1000000) := fun o ho => hop o ((List.eraseIdx_sublist _ _).subset ho)
            obtain ⟨aq, cq, rfl⟩ := hq2.form
            obtain ⟨gq, rfl, hgq, _, hc0, hc1, hc2, hc3, hc4, hc5, _⟩ := os_at hq2.own i hi
            have hLq := hq2.cellL
            have hbq2 := hq2.lt
            have hin : (i : Int) < ((refNil L).L.length : Int) := by show (i : Int) < (L.length : Int); omega
            have hLl : L.length ≤ 100000 := by omega
            have hmm : m ≤ 100000 := by omega
            have HA := hide (And.intro hq2 (And.intro hvq2 (And.intro hls (And.intro hlq (And.intro hfr2 hok)))))
            rw [show enc (some i) = (i : Int) from rfl]
            clear hq2 hvq2 hls hlq hfr2 hdw hok hop hbo hle hmL
            go_wp2_with fail
            generalize hW : World.alloc wr _ = W
            have hWf : Fr No wr W := by rw [← hW]; exact (Fr.refl _ _).alloc _
            have hWx : W.heap[wr.heap.size]? = some (.cells #[.int .i64 L[i].id, .int .i64 L[i].trader, .int .i64 L[i].book, .int .i64 L[i].side, .int .i64 L[i].price, .int .i64 L[i].opn] 95 (0, 0)) := by rw [← hW]; exact heap_alloc_new wr _
            clear hW
            refine (drop_any w.heap.size _ (refNil L) i W ((unhide HA).1.no hWf) hLl).mono ?_
            rintro e w2 ⟨rfl, v2, hq4, hf4, hv4⟩
            have hl4 : (L.eraseIdx i).length ≤ 100000 := by rw [List.length_eraseIdx, if_pos hi]; omega
            have hne1 : ¬ Is w.heap.size wr.heap.size := fun e => by have : wr.heap.size = w.heap.size := e; omega
            have hWx2 := hf4.heap hWx hne1
            have hszW := hWf.size
            have HB := hide (And.intro hq4 (And.intro (hWf.of_no.same hf4) (And.intro hv4 hWx2)))
            clear hWf hWx hq4 hf4 hv4 hWx2 hc0 hc1 hc2 hc3 hc4 hc5 hLq
            go_wp2_with fail
            refine (best_any w.heap.size v2 (refNil (L.eraseIdx i)) b sd w2 (unhide HB).1 hl4).mono ?_
            rintro e w3 ⟨rfl, hf5⟩
            obtain ⟨hq4, hf4, hv4, hWx2⟩ := unhide HB
            obtain ⟨hq2, hvq2, hls, hlq, hfr2, hok⟩ := unhide HA
            have hq6 : RefAt w3 w.heap.size v2 (refNil (L.eraseIdx i)) := hq4.no hf5
            have hll4 : ∀ g, u13.ownBlock = some g → w.heap.size + 1 ≤ g ∧ g < wr.heap.size := hls.lt
            have hl6 : Ls w3 (w.heap.size + 1) u13 lv := own_fr (own_fr hls hf4 (fun g hg e => by have := (hll4 g hg).1; have : g = w.heap.size := e; omega)) hf5 (fun _ _ => id)
            have hv6 : ∀ g, v2.ownBlock = some g → wr.heap.size ≤ g := fun g hg => by have := hv4 g hg; omega
            have hf6 : Fr No w w3 := (hfr2.trans hf4 (fun k hk e => by have : k = w.heap.size := e; omega)).quiet hf5
            obtain ⟨hx0, hx1, hx2, hx3, hx4, hx5, _⟩ := box6 (hf5.heap hWx2 id)
            have hsz6 : wr.heap.size < w3.heap.size := by have := lt_of_heap (hf5.heap hWx2 id); omega
            have hlvl : lv.length ≤ 100000 := by have := hok.1; omega
            obtain ⟨al, cl, rfl, hcl, hal, _⟩ := own_form hl6
            have HC := hide (And.intro hq6 (And.intro hl6 (And.intro hv6 (And.intro hf6 hll4))))
            have HK2 := hide hok
            clear hq4 hf4 hv4 hWx2 hq2 hvq2 hls hlq hfr2 hq6 hl6 hv6 hf6 hll4 hf5 hok HA HB
            rcases List.eq_nil_or_concat lv with hnil | ⟨l0, y, hlv⟩
            · subst hnil
              have HAD : Hid (addLev [] L[i] = [] ++ [⟨L[i].price, L[i].opn, 1⟩]) := rfl
              go_wp2
              go_quiet (fail)
              go_wp2_with (at_builtin; refine app_lev rfl (.tmp 116) (.tmp 122) rfl (w.heap.size + 1) _ [] (own_fr (S := No) (unhide HC).2.1 (by repeat (first | exact Fr.refl _ _ | refine Fr.alloc ?_ _ | refine Fr.drewN ?_ _)) (fun _ _ => id)) rfl ⟨w3.heap.size, 0, none⟩ 1 1 [⟨L[i].price, L[i].opn, 1⟩] rfl rfl (by simp) (new_cells (w3.drewN _) (Lev.cells ⟨L[i].price, L[i].opn, 1⟩) _) (by simp) (by simp; omega) ?_; intro g7 c7 w7 hown7 hfr7 hat7 hlt7)
              go_roundg f
              case rel =>
                obtain ⟨hq6, hl6, hv6, hf6, hll4⟩ := unhide HC
                obtain ⟨k1, k2, k3, k4⟩ := depth_app (n7 := 0 + 1) (c7 := c7) hq6 hv6 hf6 (by omega) hll4 (((Fr.refl _ _).drewN _).alloc _) hfr7 hat7
                refine ⟨L.eraseIdx i, _, m + 1, v2, rfl, k1, k2, by rw [← unhide HAD] at hown7; exact hown7, k3, k4, unhide HDW, (unhide HLE).1, unhide HOK, (unhide HLE).2, unhide HOP2⟩
              case measure => omega
            · have hlv' : lv = l0 ++ [y] := by simpa using hlv
              subst hlv'
              clear hlv
              have hgl : (l0 ++ [y]).getLast? = some y := by simp
              have hle0 : l0.length + 1 ≤ 100000 := by simpa using hlvl
              have hy := (unhide HK2).2 y (by simp)
              obtain ⟨gl, rfl, hgl2, _, hd0, hd1, hd2, hfzl⟩ := ls_at (unhide HC).2.1 l0.length (by simp)
              simp only [List.getElem_append_right (Nat.le_refl _), Nat.sub_self, List.getElem_cons_zero] at hd0 hd1 hd2
              have hlen : (l0 ++ [y]).length = l0.length + 1 := by simp
              rw [hlen]
              rw [hlen] at hcl
              by_cases hpe : (y.price == L[i].price) = true
              · have HAD : Hid (addLev (l0 ++ [y]) L[i] = l0 ++ [⟨y.price, y.count + L[i].opn, y.orders + 1⟩]) := by
                  show _ = _
                  unfold addLev
                  rw [hgl]
                  simp only
                  rw [if_pos (by simpa using hpe)]
                  simp
                have hcy : 0 ≤ y.count ∧ y.count ≤ 100000000000 := by omega
                have hoy : 0 ≤ y.orders ∧ y.orders ≤ 100000 := by omega
                have hf1 := hfzl (l0.length * 3 + 1)
                have hf2 := hfzl (l0.length * 3 + 2)
                clear hgl hy hlen
                go_wp2
                go_quiet (fail)
                go_wp2
                have hglw : gl ≠ wr.heap.size := by have := ((unhide HC).2.2.2.2 gl rfl).2; omega
                go_region
                all_goals
                  go_wp2
                  go_roundg f
                  case rel =>
                    obtain ⟨hq6, hl6, hv6, hf6, hll4⟩ := unhide HC
                    have hset1 := own_set Lev.len hl6 l0.length 1 (by simp) (by omega) ⟨y.price, y.count + L[i].opn, y.orders⟩ (.int .i64 (y.count + L[i].opn)) (by simp [Lev.cells])
                    have hset2 := own_set Lev.len hset1 l0.length 2 (by simp) (by omega) ⟨y.price, y.count + L[i].opn, y.orders + 1⟩ (.int .i64 (y.orders + 1)) (by simp [Lev.cells])
                    simp only [List.set_append_right _ _ (Nat.le_refl _), Nat.sub_self, List.set_cons_zero] at hset2
                    have hS : OwnS (.slice (some ⟨gl, 0, none⟩) (l0.length + 1) cl) gl := rfl
                    obtain ⟨k1, k2, k3, k4⟩ := depth_app (n7 := l0.length + 1) (c7 := cl) (g7 := gl) (l := .slice (some ⟨gl, 0, none⟩) (l0.length + 1) cl) hq6 hv6 hf6 (by omega) (by simpa using hll4) (Fr.refl _ _) (w7 := ((w3.setCell ⟨gl, l0.length * 3 + 1, none⟩ (.int .i64 (y.count + L[i].opn))).setCell ⟨gl, l0.length * 3 + 2, none⟩ (.int .i64 (y.orders + 1)))) (((Fr.refl _ _).setAt gl (.inr hS) _ _).setAt gl (.inr hS) _ _) (.inl rfl)
                    refine ⟨L.eraseIdx i, addLev (l0 ++ [y]) L[i], m + 1, v2, rfl, k1.no ?_, k2, ?_, k3, k4.quiet ?_, unhide HDW, (unhide HLE).1, unhide HOK, (unhide HLE).2, unhide HOP2⟩
                    · exact (Fr.refl No _).drewN (nq + 1)
                    · rw [unhide HAD]
                      refine own_fr (S := No) (by simpa using hset2) ?_ (fun _ _ => id)
                      exact (Fr.refl No _).drewN (nq + 1)
                    · exact (Fr.refl No _).drewN (nq + 1)
                  case measure => omega
              · replace hpe : (y.price == L[i].price) = false := by simpa using hpe
                have HAD : Hid (addLev (l0 ++ [y]) L[i] = (l0 ++ [y]) ++ [⟨L[i].price, L[i].opn, 1⟩]) := by
                  show _ = _
                  unfold addLev
                  rw [hgl]
                  simp only
                  rw [if_neg (by simpa using hpe)]
                have hl6' := (unhide HC).2.1
                rw [hlen] at hl6'
                have HL6 := hide hl6'
                clear hgl hy hlen hl6'
                go_wp2
                go_quiet (fail)
                go_wp2_with (at_builtin; refine app_lev rfl (.tmp 116) (.tmp 122) rfl (w.heap.size + 1) _ (l0 ++ [y]) (own_fr (S := No) (unhide HL6) (by repeat (first | exact Fr.refl _ _ | refine Fr.alloc ?_ _ | refine Fr.drewN ?_ _)) (fun _ _ => id)) rfl ⟨w3.heap.size, 0, none⟩ 1 1 [⟨L[i].price, L[i].opn, 1⟩] rfl rfl (by simp) (new_cells (w3.drewN _) (Lev.cells ⟨L[i].price, L[i].opn, 1⟩) _) (by simp; omega) (by simp; omega) ?_; intro g7 c7 w7 hown7 hfr7 hat7 hlt7)
                go_roundg f
                case rel =>
                  obtain ⟨hq6, hl6, hv6, hf6, hll4⟩ := unhide HC
                  obtain ⟨k1, k2, k3, k4⟩ := depth_app (n7 := (l0 ++ [y]).length + 1) (c7 := c7) hq6 hv6 hf6 (by omega) (by simpa using hll4) (((Fr.refl _ _).drewN _).alloc _) hfr7 hat7
                  exact ⟨L.eraseIdx i, _, m + 1, v2, rfl, k1, k2, by rw [← unhide HAD, show (l0 ++ [y]).length = l0.length + 1 from by simp] at hown7; exact hown7, by simpa using k3, k4, unhide HDW, (unhide HLE).1, unhide HOK, (unhide HLE).2, unhide HOP2⟩
                case measure => omega
end Go.Proofs.YtigpgnjgmaoejaaGreat
