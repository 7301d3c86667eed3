/- Plain notions for the walks over this program: what a frame of memory is (Fr), how lists of orders, events and levels lie in memory, and small laws on them. No condition. -/
import Derived.Test.YtigpgnjgmaoejaaGreatProg
import Derived.WalkKit
import Derived.WalkSpells
import Derived.WalkLawsBesides
import Derived.Deep.QuietTactic
import Derived.BigQuiet
import Derived.Deep.RegionLaw
import Derived.BigRegion
import Derived.Deep.AppendLies
namespace Go.Proofs.YtigpgnjgmaoejaaGreat
open Go.RowKit

theorem retB {a b : Bool} (h : a = b) : Ending.returned (.bool a) = .returned (.bool b) := by rw [h]
theorem retI {a b : Int} (h : a = b) : Ending.returned (.int .i64 a) = .returned (.int .i64 b) := by rw [h]
theorem valI {a b : Int} (h : a = b) : Value.int .i64 a = .int .i64 b := by rw [h]

theorem hide {p : Prop} (h : p) : Hid p := h
theorem unhide {p : Prop} (h : Hid p) : p := h

/-- Of what was there all is as it was, but for the blocks of S. -/
structure Fr (S : Nat → Prop) (w w' : World) : Prop where
  os : w'.os = w.os
  tape : w'.tape = w.tape
  output : w'.output = w.output
  size : w.heap.size ≤ w'.heap.size
  block : ∀ k, k < w.heap.size → ¬ S k → w'.heap[k]? = w.heap[k]?

def No : Nat → Prop := fun _ => False
def Is (b : Nat) : Nat → Prop := fun k => k = b
theorem Is.self (b : Nat) : Is b b := rfl

theorem Fr.refl (S : Nat → Prop) (w : World) : Fr S w w := ⟨rfl, rfl, rfl, Nat.le_refl _, fun _ _ _ => rfl⟩

theorem Fr.trans {S T : Nat → Prop} {a b c : World} (h : Fr S a b) (k : Fr T b c) (hT : ∀ i, i < a.heap.size → T i → S i) : Fr S a c :=
  ⟨k.os.trans h.os, k.tape.trans h.tape, k.output.trans h.output, Nat.le_trans h.size k.size, fun i hi hs =>
    (k.block i (Nat.lt_of_lt_of_le hi h.size) (fun t => hs (hT i hi t))).trans (h.block i hi hs)⟩

theorem Fr.same {S : Nat → Prop} {a b c : World} (h : Fr S a b) (k : Fr S b c) : Fr S a c := h.trans k fun _ _ t => t
theorem Fr.quiet {S : Nat → Prop} {a b c : World} (h : Fr S a b) (k : Fr No b c) : Fr S a c := h.trans k fun _ _ t => t.elim
theorem Fr.mono {S T : Nat → Prop} {a b : World} (h : Fr S a b) (hT : ∀ i, i < a.heap.size → S i → T i) : Fr T a b :=
  ⟨h.os, h.tape, h.output, h.size, fun k hk hs => h.block k hk fun t => hs (hT k hk t)⟩
theorem Fr.of_no {S : Nat → Prop} {a b : World} (h : Fr No a b) : Fr S a b := h.mono fun _ _ t => t.elim
theorem Fr.drew {S : Nat → Prop} {a w : World} (h : Fr S a w) : Fr S a w.drew := ⟨h.os, h.tape, h.output, h.size, h.block⟩
theorem Fr.drewN {S : Nat → Prop} {a w : World} (h : Fr S a w) (n : Nat) : Fr S a (w.drewN n) := ⟨h.os, h.tape, h.output, h.size, h.block⟩
theorem Fr.alloc {S : Nat → Prop} {a w : World} (h : Fr S a w) (o : Obj) : Fr S a (w.alloc o) :=
  ⟨h.os, h.tape, h.output, by simp; have := h.size; omega, fun k hk hs => by
    rw [Below.heap_alloc _ _ _ (Nat.lt_of_lt_of_le hk h.size)]; exact h.block k hk hs⟩
theorem Fr.setCell {S : Nat → Prop} {a w : World} (h : Fr S a w) {p : Addr} (hp : a.heap.size ≤ p.block ∨ S p.block) (u : Value) : Fr S a (w.setCell p u) :=
  ⟨h.os, h.tape, h.output, by simpa [World.setCell] using h.size, fun k hk hs => by
    rw [Below.heap_setCell _ _ _ _ (by rintro rfl; exact hp.elim (fun hp => by omega) hs)]; exact h.block k hk hs⟩
theorem Fr.setAt {S : Nat → Prop} {a w : World} (h : Fr S a w) (b : Nat) (hp : a.heap.size ≤ b ∨ S b) (k : Nat) (u : Value) : Fr S a (w.setCell ⟨b, k, none⟩ u) := h.setCell (p := ⟨b, k, none⟩) hp u
theorem Fr.grown {S : Nat → Prop} {a w w' : World} {row : Option Nat} (h : Fr S a w) (hg : w.grownBy w' row) (hr : ∀ k, row = some k → a.heap.size ≤ k ∨ S k) : Fr S a w' :=
  ⟨hg.os.trans h.os, hg.tape.trans h.tape, hg.output.trans h.output, Nat.le_trans h.size hg.size, fun k hk hs => by
    rw [hg.block k (Nat.lt_of_lt_of_le hk h.size) (fun e => (hr k e.symm).elim (fun hp => by omega) hs)]; exact h.block k hk hs⟩
theorem Fr.of_below {w w' : World} (h : Below w.heap.size w w') : Fr No w w' := ⟨h.os, h.tape, h.output, h.size, fun k hk _ => h.block k hk⟩
theorem Fr.below {w w' : World} (h : Fr No w w') : Below w.heap.size w w' := ⟨h.os, h.tape, h.output, h.size, fun k hk => h.block k hk id⟩

theorem lt_of_heap {w : World} {b : Nat} {o : Obj} (h : w.heap[b]? = some o) : b < w.heap.size := (Array.getElem?_eq_some_iff.1 h).1
theorem Fr.heap {S : Nat → Prop} {w w' : World} (h : Fr S w w') {b : Nat} {o : Obj} (hb : w.heap[b]? = some o) (hs : ¬ S b) : w'.heap[b]? = some o :=
  (h.block b (lt_of_heap hb) hs).trans hb

theorem cell_heap {w : World} {b : Nat} {c : Array Value} {e : TypeId} {z : Nat × Nat} (h : w.heap[b]? = some (.cells c e z)) (k : Nat) : w.cell? ⟨b, k, none⟩ = c[k]? := by
  simp [World.cell?, h]
theorem frozen_heap {w : World} {b : Nat} {c : Array Value} {e : TypeId} (h : w.heap[b]? = some (.cells c e (0, 0))) (k : Nat) : w.frozen? ⟨b, k, none⟩ = false := by
  simp [World.frozen?, h]
theorem heap_set {w : World} {b : Nat} {c : Array Value} {e : TypeId} {z : Nat × Nat} (h : w.heap[b]? = some (.cells c e z)) (k : Nat) (v : Value) :
    (w.setCell ⟨b, k, none⟩ v).heap[b]? = some (.cells (c.setIfInBounds k v) e z) := by
  simp [World.setCell, Array.getElem?_modify, h]
theorem heap_set_other {w : World} {b b' : Nat} (hb : b' ≠ b) (k : Nat) (v : Value) : (w.setCell ⟨b, k, none⟩ v).heap[b']? = w.heap[b']? := by
  simp only [World.setCell, Array.getElem?_modify]; rw [if_neg (fun h => hb h.symm)]

/-- Lists of records of one width. -/
theorem flat_len {α : Type} {f : α → List Value} {s : Nat} (hs : ∀ a, (f a).length = s) (L : List α) : (L.flatMap f).length = L.length * s := by
  induction L with
  | nil => simp
  | cons x l ih => simp [ih, hs, Nat.add_mul]; omega

theorem flat_get {α : Type} {f : α → List Value} {s : Nat} (hs : ∀ a, (f a).length = s) (L : List α) (i k : Nat) (hk : k < s) :
    (L.flatMap f)[i * s + k]? = (L[i]?).bind fun a => (f a)[k]? := by
  induction L generalizing i with
  | nil => simp
  | cons x l ih =>
    rw [List.flatMap_cons]
    cases i with
    | zero => simp only [Nat.zero_mul, Nat.zero_add]; rw [List.getElem?_append_left (by rw [hs]; exact hk)]; simp
    | succ j =>
      rw [List.getElem?_append_right (by rw [hs, Nat.add_mul]; omega), hs,
        show (j + 1) * s + k - s = j * s + k from by rw [Nat.add_mul]; omega, ih j]
      simp

/-- What a slice of records that is owned holds at a place. -/
theorem own_at {α : Type} {f : α → List Value} {s : Nat} (hs : ∀ a, (f a).length = s) {w : World} {base : Nat} {e : TypeId} {a : Option Addr} {n cap : Nat} {L : List α}
    (h : w.ownsRow base e s (.slice a n cap) L.length (L.flatMap f)) (i : Nat) (hi : i < L.length) :
    ∃ g, a = some ⟨g, 0, none⟩ ∧ g < w.heap.size ∧ base ≤ g ∧ n = L.length ∧ n ≤ cap ∧
      (∀ k u, k < s → (f L[i])[k]? = some u → w.cell? ⟨g, i * s + k, none⟩ = some u) ∧ ∀ k, w.frozen? ⟨g, k, none⟩ = false := by
  rcases h.2 with ⟨_, h0⟩ | ⟨g, cap', cur, hv, hb, hg, hn, _, hcs, ht⟩
  · omega
  · simp only [Value.slice.injEq] at hv
    obtain ⟨rfl, rfl, rfl⟩ := hv
    refine ⟨g, rfl, lt_of_heap hg, hb, rfl, hn, ?_, frozen_heap hg⟩
    intro k u hk hu
    rw [cell_heap hg]
    have h1 := flat_get hs L i k hk
    rw [List.getElem?_eq_getElem hi] at h1
    simp only [Option.bind_some, hu] at h1
    rw [← ht, List.getElem?_take] at h1
    split at h1
    · simpa using h1
    · cases h1

theorem own_form {w : World} {base : Nat} {e : TypeId} {s : Nat} {v : Value} {n : Nat} {xs : List Value} (h : w.ownsRow base e s v n xs) :
    ∃ a cap, v = .slice a n cap ∧ n ≤ cap ∧ (a = none → n = 0 ∧ cap = 0) ∧ (∀ x, a = some x → ∃ g, x = ⟨g, 0, none⟩ ∧ v.ownBlock = some g ∧ base ≤ g ∧ g < w.heap.size) := by
  rcases h.2 with ⟨rfl, rfl⟩ | ⟨g, cap, cur, rfl, hb, hg, hn, _⟩
  · exact ⟨none, 0, rfl, Nat.le_refl _, fun _ => ⟨rfl, rfl⟩, fun _ h => by cases h⟩
  · exact ⟨some ⟨g, 0, none⟩, cap, rfl, hn, (fun h => by cases h), fun x hx => ⟨g, by cases hx; rfl, rfl, hb, lt_of_heap hg⟩⟩

theorem own_fr {S : Nat → Prop} {w w' : World} {base : Nat} {e : TypeId} {s : Nat} {v : Value} {n : Nat} {xs : List Value} (h : w.ownsRow base e s v n xs) (hf : Fr S w w')
    (hv : ∀ g, v.ownBlock = some g → ¬ S g) : w'.ownsRow base e s v n xs := by
  refine ⟨h.1, ?_⟩
  rcases h.2 with hn | ⟨g, cap, cur, rfl, hb, hgg, rest⟩
  · exact .inl hn
  · exact .inr ⟨g, cap, cur, rfl, hb, hf.heap hgg (hv g rfl), rest⟩

theorem own_base {w : World} {base b2 : Nat} {e : TypeId} {s : Nat} {v : Value} {n : Nat} {xs : List Value} (h : w.ownsRow base e s v n xs) (hb : ∀ g, v.ownBlock = some g → b2 ≤ g) : w.ownsRow b2 e s v n xs := by
  refine ⟨h.1, ?_⟩
  rcases h.2 with hn | ⟨g, cap, cur, rfl, _, hgg, rest⟩
  · exact .inl hn
  · exact .inr ⟨g, cap, cur, rfl, hb g rfl, hgg, rest⟩

/-- append, as one step of a region that draws its order: a row that is owned. -/
theorem step_append_own {P : Program} {ops : Array Oper} {o : Oper} {a : Act} {w : World} {K : Act → World → Prop} {Q : Exit → Act → World → Prop} {E : Prop}
    (hg : o.guard = none) (s x : Operand) (t : TypeId) (hop : o.op = Op.call { callee := Callee.builtin Builtin.append, args := #[s, x], argTypes := #[t, t] })
    (base : Nat) (e : TypeId) (i : TypeInfo) (z : Value) (size bytes : Nat) (ht : P.underlying t = some (.slice e)) (hi : P.info? e = some i) (hz : i.zero = some z)
    (hsize : i.size = size) (hby : i.bytes = bytes) (hzs : z.cells.size = size) (hsz : 0 < size)
    (v : Value) (n : Nat) (xs : List Value) (hs : a.eval s = v) (hown : w.ownsRow base e size v n xs)
    (ad : Addr) (m c : Nat) (news : List Value) (hx : a.eval x = .slice (some ad) m c) (hl : news.length = m * size) (hnews : ∀ j u, news[j]? = some u → w.cell? (ad.add j) = some u) (h1 : ∀ u ∈ news, u.oneCell' = true)
    (h63 : n + m ≤ maxLen) (hbytes : (n + m) * bytes ≤ 140737488355328) (hbase : base ≤ w.heap.size)
    (h : ∀ v' w', w'.ownsRow base e size v' (n + m) (xs ++ news) → w.grownBy w' v.ownBlock → (v' = .slice none 0 0 ↔ v = .slice none 0 0 ∧ m = 0) → K (a.put o.dst v') w') :
    if Region.wanted o (yielded ops a.tmps) = true then Oper.wp P o a w K Q else E := by
  have hw : Region.wanted o (yielded ops a.tmps) = true := by simp [Region.wanted, hg]
  rw [if_pos hw]
  exact wp_append_own w s x t hop base e i z size bytes ht hi hz hsize hby hzs hsz v n xs hs hown ad m c news hx hl hnews h1 h63 hbytes hbase h

structure Ord where
  id : Int
  trader : Int
  book : Int
  side : Int
  price : Int
  opn : Int

def Ord.cells (o : Ord) : List Value := [.int .i64 o.id, .int .i64 o.trader, .int .i64 o.book, .int .i64 o.side, .int .i64 o.price, .int .i64 o.opn]
def Ord.val (o : Ord) : Value := .agg #[.int .i64 o.id, .int .i64 o.trader, .int .i64 o.book, .int .i64 o.side, .int .i64 o.price, .int .i64 o.opn]
theorem Ord.len (o : Ord) : o.cells.length = 6 := rfl

structure Ev where
  what : Int
  id : Int
  other : Int
  price : Int
  count : Int
  err : Int

def Ev.cells (o : Ev) : List Value := [.int .i64 o.what, .int .i64 o.id, .int .i64 o.other, .int .i64 o.price, .int .i64 o.count, .int .i64 o.err]
def Ev.val (o : Ev) : Value := .agg #[.int .i64 o.what, .int .i64 o.id, .int .i64 o.other, .int .i64 o.price, .int .i64 o.count, .int .i64 o.err]
theorem Ev.len (o : Ev) : o.cells.length = 6 := rfl

structure Lev where
  price : Int
  count : Int
  orders : Int

def Lev.cells (o : Lev) : List Value := [.int .i64 o.price, .int .i64 o.count, .int .i64 o.orders]
theorem Lev.len (o : Lev) : o.cells.length = 3 := rfl

structure Cmd where
  what : Int
  id : Int
  trader : Int
  book : Int
  side : Int
  kind : Int
  price : Int
  count : Int

def Cmd.val (c : Cmd) : Value := .agg #[.int .i64 c.what, .int .i64 c.id, .int .i64 c.trader, .int .i64 c.book, .int .i64 c.side, .int .i64 c.kind, .int .i64 c.price, .int .i64 c.count]

/-- A slice of orders, of events, of levels. -/
def Os (w : World) (base : Nat) (v : Value) (L : List Ord) : Prop := w.ownsRow base 95 6 v L.length (L.flatMap Ord.cells)
def Es (w : World) (base : Nat) (v : Value) (L : List Ev) : Prop := w.ownsRow base 42 6 v L.length (L.flatMap Ev.cells)
def Ls (w : World) (base : Nat) (v : Value) (L : List Lev) : Prop := w.ownsRow base 97 3 v L.length (L.flatMap Lev.cells)

/-- The six cells of the order at a place. -/
theorem os_at {w : World} {base : Nat} {a : Option Addr} {n cap : Nat} {L : List Ord} (h : Os w base (.slice a n cap) L) (i : Nat) (hi : i < L.length) :
    ∃ g, a = some ⟨g, 0, none⟩ ∧ g < w.heap.size ∧ base ≤ g ∧
      w.cell? ⟨g, i * 6, none⟩ = some (.int .i64 L[i].id) ∧ w.cell? ⟨g, i * 6 + 1, none⟩ = some (.int .i64 L[i].trader) ∧
      w.cell? ⟨g, i * 6 + 2, none⟩ = some (.int .i64 L[i].book) ∧ w.cell? ⟨g, i * 6 + 3, none⟩ = some (.int .i64 L[i].side) ∧
      w.cell? ⟨g, i * 6 + 4, none⟩ = some (.int .i64 L[i].price) ∧ w.cell? ⟨g, i * 6 + 5, none⟩ = some (.int .i64 L[i].opn) ∧
      ∀ k, w.frozen? ⟨g, k, none⟩ = false := by
  obtain ⟨g, rfl, h1, h2, _, _, hc, hf⟩ := own_at Ord.len h i hi
  exact ⟨g, rfl, h1, h2, hc 0 _ (by omega) rfl, hc 1 _ (by omega) rfl, hc 2 _ (by omega) rfl, hc 3 _ (by omega) rfl, hc 4 _ (by omega) rfl, hc 5 _ (by omega) rfl, hf⟩

theorem es_at {w : World} {base : Nat} {a : Option Addr} {n cap : Nat} {L : List Ev} (h : Es w base (.slice a n cap) L) (i : Nat) (hi : i < L.length) :
    ∃ g, a = some ⟨g, 0, none⟩ ∧ g < w.heap.size ∧ base ≤ g ∧
      w.cell? ⟨g, i * 6, none⟩ = some (.int .i64 L[i].what) ∧ w.cell? ⟨g, i * 6 + 1, none⟩ = some (.int .i64 L[i].id) ∧
      w.cell? ⟨g, i * 6 + 2, none⟩ = some (.int .i64 L[i].other) ∧ w.cell? ⟨g, i * 6 + 3, none⟩ = some (.int .i64 L[i].price) ∧
      w.cell? ⟨g, i * 6 + 4, none⟩ = some (.int .i64 L[i].count) ∧ w.cell? ⟨g, i * 6 + 5, none⟩ = some (.int .i64 L[i].err) ∧
      ∀ k, w.frozen? ⟨g, k, none⟩ = false := by
  obtain ⟨g, rfl, h1, h2, _, _, hc, hf⟩ := own_at Ev.len h i hi
  exact ⟨g, rfl, h1, h2, hc 0 _ (by omega) rfl, hc 1 _ (by omega) rfl, hc 2 _ (by omega) rfl, hc 3 _ (by omega) rfl, hc 4 _ (by omega) rfl, hc 5 _ (by omega) rfl, hf⟩

theorem ls_at {w : World} {base : Nat} {a : Option Addr} {n cap : Nat} {L : List Lev} (h : Ls w base (.slice a n cap) L) (i : Nat) (hi : i < L.length) :
    ∃ g, a = some ⟨g, 0, none⟩ ∧ g < w.heap.size ∧ base ≤ g ∧
      w.cell? ⟨g, i * 3, none⟩ = some (.int .i64 L[i].price) ∧ w.cell? ⟨g, i * 3 + 1, none⟩ = some (.int .i64 L[i].count) ∧
      w.cell? ⟨g, i * 3 + 2, none⟩ = some (.int .i64 L[i].orders) ∧ ∀ k, w.frozen? ⟨g, k, none⟩ = false := by
  obtain ⟨g, rfl, h1, h2, _, _, hc, hf⟩ := own_at Lev.len h i hi
  exact ⟨g, rfl, h1, h2, hc 0 _ (by omega) rfl, hc 1 _ (by omega) rfl, hc 2 _ (by omega) rfl, hf⟩

/-- The document's pit: what rests, which books trade, what was traded. -/
structure Ref where
  L : List Ord
  tr : Nat → Bool
  td : Nat → Int

def refCells (v : Value) (s : Ref) : List Value :=
  [v, .bool (s.tr 0), .bool (s.tr 1), .bool (s.tr 2), .bool (s.tr 3), .bool (s.tr 4), .bool (s.tr 5), .bool (s.tr 6), .bool (s.tr 7), .bool (s.tr 8),
   .int .i64 (s.td 0), .int .i64 (s.td 1), .int .i64 (s.td 2), .int .i64 (s.td 3), .int .i64 (s.td 4), .int .i64 (s.td 5), .int .i64 (s.td 6), .int .i64 (s.td 7), .int .i64 (s.td 8)]

/-- It lies at a block, with the slice v. -/
structure RefAt (w : World) (bp : Nat) (v : Value) (s : Ref) : Prop where
  blk : w.heap[bp]? = some (.cells (refCells v s).toArray 57 (0, 0))
  own : Os w 0 v s.L
  apart : v.ownBlock ≠ some bp

theorem RefAt.fr {S : Nat → Prop} {w w' : World} {bp : Nat} {v : Value} {s : Ref} (h : RefAt w bp v s) (hf : Fr S w w') (h1 : ¬ S bp) (h2 : ∀ g, v.ownBlock = some g → ¬ S g) : RefAt w' bp v s :=
  ⟨hf.heap h.blk h1, own_fr h.own hf h2, h.apart⟩
theorem RefAt.no {w w' : World} {bp : Nat} {v : Value} {s : Ref} (h : RefAt w bp v s) (hf : Fr No w w') : RefAt w' bp v s := h.fr hf id fun _ _ => id
theorem RefAt.cellL {w : World} {bp : Nat} {v : Value} {s : Ref} (h : RefAt w bp v s) : w.cell? ⟨bp, 0, none⟩ = some v := by rw [cell_heap h.blk]; rfl
theorem RefAt.frozen {w : World} {bp : Nat} {v : Value} {s : Ref} (h : RefAt w bp v s) (k : Nat) : w.frozen? ⟨bp, k, none⟩ = false := frozen_heap h.blk k
theorem RefAt.cellTr {w : World} {bp : Nat} {v : Value} {s : Ref} (h : RefAt w bp v s) (k : Nat) (hk : k < 9) : w.cell? ⟨bp, 1 + k, none⟩ = some (.bool (s.tr k)) := by
  rw [cell_heap h.blk]
  match k, hk with
  | 0, _ | 1, _ | 2, _ | 3, _ | 4, _ | 5, _ | 6, _ | 7, _ | 8, _ => rfl
theorem RefAt.cellTd {w : World} {bp : Nat} {v : Value} {s : Ref} (h : RefAt w bp v s) (k : Nat) (hk : k < 9) : w.cell? ⟨bp, 10 + k, none⟩ = some (.int .i64 (s.td k)) := by
  rw [cell_heap h.blk]
  match k, hk with
  | 0, _ | 1, _ | 2, _ | 3, _ | 4, _ | 5, _ | 6, _ | 7, _ | 8, _ => rfl
/-- Its list is another now. -/
theorem RefAt.store {w : World} {bp base : Nat} {v v' : Value} {s : Ref} {L' : List Ord} (h : RefAt w bp v s) (ho : Os w base v' L') (hb : ∀ g, v'.ownBlock = some g → g ≠ bp) :
    RefAt (w.setCell ⟨bp, 0, none⟩ v') bp v' { s with L := L' } :=
  ⟨(heap_set h.blk 0 v').trans rfl, own_base (own_fr ho ((Fr.refl (Is bp) _).setAt bp (.inr (Is.self bp)) 0 _) hb) (fun _ _ => Nat.zero_le _), fun e => hb _ e rfl⟩
theorem RefAt.lt {w : World} {bp : Nat} {v : Value} {s : Ref} (h : RefAt w bp v s) : bp < w.heap.size := lt_of_heap h.blk
theorem RefAt.form {w : World} {bp : Nat} {v : Value} {s : Ref} (h : RefAt w bp v s) : ∃ a cap, v = .slice a s.L.length cap :=
  let ⟨a, cap, h1, _⟩ := own_form h.own
  ⟨a, cap, h1⟩

end Go.Proofs.YtigpgnjgmaoejaaGreat

/- append onto owned slices of orders, events, levels, numbers and lists, as a step of a walk: plain, and within a region that draws its order. Condition: the sum of the lengths is within the model's bound. -/
namespace Go.Proofs.YtigpgnjgmaoejaaGreat
open Go.RowKit

def zOrd : Value := .agg #[.int .i64 0, .int .i64 0, .int .i64 0, .int .i64 0, .int .i64 0, .int .i64 0]
def zLev : Value := .agg #[.int .i64 0, .int .i64 0, .int .i64 0]
theorem infoOrd : (Tryz.prog.info? 95).map (fun i => (i.zero, i.size, i.bytes)) = some (some zOrd, 6, 48) := by kernel_rfl
theorem infoEv : (Tryz.prog.info? 42).map (fun i => (i.zero, i.size, i.bytes)) = some (some zOrd, 6, 48) := by kernel_rfl
theorem infoLev : (Tryz.prog.info? 97).map (fun i => (i.zero, i.size, i.bytes)) = some (some zLev, 3, 24) := by kernel_rfl
theorem infoInt : (Tryz.prog.info? 3).map (fun i => (i.zero, i.size, i.bytes)) = some (some (.int .i64 0), 1, 8) := by kernel_rfl
theorem infoEvs : (Tryz.prog.info? 38).map (fun i => (i.zero, i.size, i.bytes)) = some (some (.slice none 0 0), 1, 24) := by kernel_rfl
theorem infoLevs : (Tryz.prog.info? 98).map (fun i => (i.zero, i.size, i.bytes)) = some (some (.slice none 0 0), 1, 24) := by kernel_rfl

/-- What was just laid reads so. -/
theorem new_cells (w : World) (cs : List Value) (T : TypeId) : ∀ j u, cs[j]? = some u → (w.alloc (.cells cs.toArray T)).cell? ((⟨w.heap.size, 0, none⟩ : Addr).add j) = some u := by
  intro j u hu
  have hadd : (⟨w.heap.size, 0, none⟩ : Addr).add j = ⟨w.heap.size, j, none⟩ := by unfold Addr.add; split <;> simp_all
  rw [hadd, cell_heap (heap_alloc_new w _)]
  simpa using hu

/-- What a list that is owned holds, as cells to be appended. -/
theorem own_news {w : World} {base : Nat} {e : TypeId} {s g n cap : Nat} {xs : List Value} (h : w.ownsRow base e s (.slice (some ⟨g, 0, none⟩) n cap) n xs) : ∀ j u, xs[j]? = some u → w.cell? ((⟨g, 0, none⟩ : Addr).add j) = some u :=
  h.cells rfl

theorem os_one (x : Ord) : ∀ u ∈ x.cells, u.oneCell' = true := by intro u hu; simp only [Ord.cells, List.mem_cons, List.not_mem_nil, or_false] at hu; rcases hu with rfl | rfl | rfl | rfl | rfl | rfl <;> rfl
theorem es_one (x : Ev) : ∀ u ∈ x.cells, u.oneCell' = true := by intro u hu; simp only [Ev.cells, List.mem_cons, List.not_mem_nil, or_false] at hu; rcases hu with rfl | rfl | rfl | rfl | rfl | rfl <;> rfl
theorem ls_one (x : Lev) : ∀ u ∈ x.cells, u.oneCell' = true := by intro u hu; simp only [Lev.cells, List.mem_cons, List.not_mem_nil, or_false] at hu; rcases hu with rfl | rfl | rfl <;> rfl
theorem flat_one {α : Type} {f : α → List Value} (h : ∀ a, ∀ u ∈ f a, u.oneCell' = true) (N : List α) : ∀ u ∈ N.flatMap f, u.oneCell' = true := by
  intro u hu; obtain ⟨a, _, ha⟩ := List.mem_flatMap.1 hu; exact h a u ha

/-- The block of a slice. -/
def OwnS (v : Value) : Nat → Prop := fun k => v.ownBlock = some k

theorem fr_of_grown {w w' : World} {v : Value} (h : w.grownBy w' v.ownBlock) : Fr (OwnS v) w w' := Fr.grown (Fr.refl _ _) h fun _ hk => .inr hk

section
variable {α : Type} {f : α → List Value} {t e : TypeId} {sz by_ : Nat} {z : Value} {o : Oper} {a : Act} {w : World}

/-- The one law: at the operation. -/
theorem app_wp {K : Act → World → Prop} {Q : Exit → Act → World → Prop} (info : (Tryz.prog.info? e).map (fun i => (i.zero, i.size, i.bytes)) = some (some z, sz, by_)) (und : Tryz.prog.underlying t = some (.slice e)) (hf : ∀ a, (f a).length = sz) (hz : z.cells.size = sz) (h0 : 0 < sz) (h1 : ∀ a, ∀ u ∈ f a, u.oneCell' = true)
    (s x : Operand) (ho : o.op = .call { callee := .builtin .append, args := #[s, x], argTypes := #[t, t] })
    (base : Nat) (v : Value) (L : List α) (hown : w.ownsRow base e sz v L.length (L.flatMap f)) (hs : a.eval s = v)
    (ad : Addr) (m c : Nat) (N : List α) (hx : a.eval x = .slice (some ad) m c) (hm : m = N.length) (hN : 0 < N.length) (hnews : ∀ j u, (N.flatMap f)[j]? = some u → w.cell? (ad.add j) = some u)
    (hb : (L.length + N.length) * by_ ≤ 140737488355328) (hb2 : L.length + N.length ≤ 140737488355328) (hbase : base ≤ w.heap.size)
    (h : ∀ g cap w', w'.ownsRow base e sz (.slice (some ⟨g, 0, none⟩) (L.length + m) cap) (L ++ N).length ((L ++ N).flatMap f) → Fr (OwnS v) w w' → (v.ownBlock = some g ∨ g = w.heap.size) → g < w'.heap.size → K (a.put o.dst (.slice (some ⟨g, 0, none⟩) (L.length + m) cap)) w') : o.wp Tryz.prog a w K Q := by
  subst hm
  obtain ⟨i0, hi, hz0, hz1, hz2⟩ := info_parts info
  refine wp_append_lies w s x t ho base e i0 z sz by_ und hi hz0 hz1 hz2 hz h0 v L.length _ hs hown ad N.length c _ hx (flat_len hf N) hnews (flat_one h1 N) hN (by unfold maxLen; omega) hb hbase _ rfl ?_
  intro g cap w' h2 h3 h4 h5
  exact h g cap w' (by rw [List.length_append, List.flatMap_append]; exact h2) (fr_of_grown h3) h4 h5
end

theorem app_ord {ops : Array Oper} {rest : List Oper} {o : Oper} {a : Act} {Q : Exit → Act → World → Prop} {w : World} (hgd : o.guard = none) (s x : Operand) (ho : o.op = .call { callee := .builtin .append, args := #[s, x], argTypes := #[53, 53] })
    (base : Nat) (v : Value) (L : List Ord) (hown : Os w base v L) (hs : a.eval s = v)
    (ad : Addr) (m c : Nat) (N : List Ord) (hx : a.eval x = .slice (some ad) m c) (hm : m = N.length) (hN : 0 < N.length) (hnews : ∀ j u, (N.flatMap Ord.cells)[j]? = some u → w.cell? (ad.add j) = some u)
    (hb : L.length + N.length ≤ 1000000) (hbase : base ≤ w.heap.size)
    (h : ∀ g cap w', Os w' base (.slice (some ⟨g, 0, none⟩) (L.length + m) cap) (L ++ N) → Fr (OwnS v) w w' → (v.ownBlock = some g ∨ g = w.heap.size) → g < w'.heap.size → wpList Tryz.prog ops Q rest (a.put o.dst (.slice (some ⟨g, 0, none⟩) (L.length + m) cap)) w') : wpList Tryz.prog ops Q (o :: rest) a w :=
  wpList_plain hgd fun _ hK => app_wp infoOrd Tryz.underlying53 Ord.len rfl (by decide) os_one s x ho base v L hown hs ad m c N hx hm hN hnews (by omega) (by omega) hbase fun g cap w' h2 h3 h4 h5 => hK _ _ (h g cap w' h2 h3 h4 h5)
theorem step_ord {ops : Array Oper} {o : Oper} {a : Act} {K : Act → World → Prop} {Q : Exit → Act → World → Prop} {w : World} {E : Prop} (hgd : o.guard = none) (s x : Operand) (ho : o.op = .call { callee := .builtin .append, args := #[s, x], argTypes := #[53, 53] })
    (base : Nat) (v : Value) (L : List Ord) (hown : Os w base v L) (hs : a.eval s = v)
    (ad : Addr) (m c : Nat) (N : List Ord) (hx : a.eval x = .slice (some ad) m c) (hm : m = N.length) (hN : 0 < N.length) (hnews : ∀ j u, (N.flatMap Ord.cells)[j]? = some u → w.cell? (ad.add j) = some u)
    (hb : L.length + N.length ≤ 1000000) (hbase : base ≤ w.heap.size)
    (h : ∀ g cap w', Os w' base (.slice (some ⟨g, 0, none⟩) (L.length + m) cap) (L ++ N) → Fr (OwnS v) w w' → (v.ownBlock = some g ∨ g = w.heap.size) → g < w'.heap.size → K (a.put o.dst (.slice (some ⟨g, 0, none⟩) (L.length + m) cap)) w') : if Region.wanted o (yielded ops a.tmps) = true then Oper.wp Tryz.prog o a w K Q else E := by
  have hw : Region.wanted o (yielded ops a.tmps) = true := by simp [Region.wanted, hgd]
  rw [if_pos hw]
  exact app_wp infoOrd Tryz.underlying53 Ord.len rfl (by decide) os_one s x ho base v L hown hs ad m c N hx hm hN hnews (by omega) (by omega) hbase h
theorem app_ev {ops : Array Oper} {rest : List Oper} {o : Oper} {a : Act} {Q : Exit → Act → World → Prop} {w : World} (hgd : o.guard = none) (s x : Operand) (ho : o.op = .call { callee := .builtin .append, args := #[s, x], argTypes := #[38, 38] })
    (base : Nat) (v : Value) (L : List Ev) (hown : Es w base v L) (hs : a.eval s = v)
    (ad : Addr) (m c : Nat) (N : List Ev) (hx : a.eval x = .slice (some ad) m c) (hm : m = N.length) (hN : 0 < N.length) (hnews : ∀ j u, (N.flatMap Ev.cells)[j]? = some u → w.cell? (ad.add j) = some u)
    (hb : L.length + N.length ≤ 1000000) (hbase : base ≤ w.heap.size)
    (h : ∀ g cap w', Es w' base (.slice (some ⟨g, 0, none⟩) (L.length + m) cap) (L ++ N) → Fr (OwnS v) w w' → (v.ownBlock = some g ∨ g = w.heap.size) → g < w'.heap.size → wpList Tryz.prog ops Q rest (a.put o.dst (.slice (some ⟨g, 0, none⟩) (L.length + m) cap)) w') : wpList Tryz.prog ops Q (o :: rest) a w :=
  wpList_plain hgd fun _ hK => app_wp infoEv Tryz.underlying38 Ev.len rfl (by decide) es_one s x ho base v L hown hs ad m c N hx hm hN hnews (by omega) (by omega) hbase fun g cap w' h2 h3 h4 h5 => hK _ _ (h g cap w' h2 h3 h4 h5)
theorem step_ev {ops : Array Oper} {o : Oper} {a : Act} {K : Act → World → Prop} {Q : Exit → Act → World → Prop} {w : World} {E : Prop} (hgd : o.guard = none) (s x : Operand) (ho : o.op = .call { callee := .builtin .append, args := #[s, x], argTypes := #[38, 38] })
    (base : Nat) (v : Value) (L : List Ev) (hown : Es w base v L) (hs : a.eval s = v)
    (ad : Addr) (m c : Nat) (N : List Ev) (hx : a.eval x = .slice (some ad) m c) (hm : m = N.length) (hN : 0 < N.length) (hnews : ∀ j u, (N.flatMap Ev.cells)[j]? = some u → w.cell? (ad.add j) = some u)
    (hb : L.length + N.length ≤ 1000000) (hbase : base ≤ w.heap.size)
    (h : ∀ g cap w', Es w' base (.slice (some ⟨g, 0, none⟩) (L.length + m) cap) (L ++ N) → Fr (OwnS v) w w' → (v.ownBlock = some g ∨ g = w.heap.size) → g < w'.heap.size → K (a.put o.dst (.slice (some ⟨g, 0, none⟩) (L.length + m) cap)) w') : if Region.wanted o (yielded ops a.tmps) = true then Oper.wp Tryz.prog o a w K Q else E := by
  have hw : Region.wanted o (yielded ops a.tmps) = true := by simp [Region.wanted, hgd]
  rw [if_pos hw]
  exact app_wp infoEv Tryz.underlying38 Ev.len rfl (by decide) es_one s x ho base v L hown hs ad m c N hx hm hN hnews (by omega) (by omega) hbase h
theorem app_lev {ops : Array Oper} {rest : List Oper} {o : Oper} {a : Act} {Q : Exit → Act → World → Prop} {w : World} (hgd : o.guard = none) (s x : Operand) (ho : o.op = .call { callee := .builtin .append, args := #[s, x], argTypes := #[98, 98] })
    (base : Nat) (v : Value) (L : List Lev) (hown : Ls w base v L) (hs : a.eval s = v)
    (ad : Addr) (m c : Nat) (N : List Lev) (hx : a.eval x = .slice (some ad) m c) (hm : m = N.length) (hN : 0 < N.length) (hnews : ∀ j u, (N.flatMap Lev.cells)[j]? = some u → w.cell? (ad.add j) = some u)
    (hb : L.length + N.length ≤ 1000000) (hbase : base ≤ w.heap.size)
    (h : ∀ g cap w', Ls w' base (.slice (some ⟨g, 0, none⟩) (L.length + m) cap) (L ++ N) → Fr (OwnS v) w w' → (v.ownBlock = some g ∨ g = w.heap.size) → g < w'.heap.size → wpList Tryz.prog ops Q rest (a.put o.dst (.slice (some ⟨g, 0, none⟩) (L.length + m) cap)) w') : wpList Tryz.prog ops Q (o :: rest) a w :=
  wpList_plain hgd fun _ hK => app_wp infoLev Tryz.underlying98 Lev.len rfl (by decide) ls_one s x ho base v L hown hs ad m c N hx hm hN hnews (by omega) (by omega) hbase fun g cap w' h2 h3 h4 h5 => hK _ _ (h g cap w' h2 h3 h4 h5)
theorem step_lev {ops : Array Oper} {o : Oper} {a : Act} {K : Act → World → Prop} {Q : Exit → Act → World → Prop} {w : World} {E : Prop} (hgd : o.guard = none) (s x : Operand) (ho : o.op = .call { callee := .builtin .append, args := #[s, x], argTypes := #[98, 98] })
    (base : Nat) (v : Value) (L : List Lev) (hown : Ls w base v L) (hs : a.eval s = v)
    (ad : Addr) (m c : Nat) (N : List Lev) (hx : a.eval x = .slice (some ad) m c) (hm : m = N.length) (hN : 0 < N.length) (hnews : ∀ j u, (N.flatMap Lev.cells)[j]? = some u → w.cell? (ad.add j) = some u)
    (hb : L.length + N.length ≤ 1000000) (hbase : base ≤ w.heap.size)
    (h : ∀ g cap w', Ls w' base (.slice (some ⟨g, 0, none⟩) (L.length + m) cap) (L ++ N) → Fr (OwnS v) w w' → (v.ownBlock = some g ∨ g = w.heap.size) → g < w'.heap.size → K (a.put o.dst (.slice (some ⟨g, 0, none⟩) (L.length + m) cap)) w') : if Region.wanted o (yielded ops a.tmps) = true then Oper.wp Tryz.prog o a w K Q else E := by
  have hw : Region.wanted o (yielded ops a.tmps) = true := by simp [Region.wanted, hgd]
  rw [if_pos hw]
  exact app_wp infoLev Tryz.underlying98 Lev.len rfl (by decide) ls_one s x ho base v L hown hs ad m c N hx hm hN hnews (by omega) (by omega) hbase h
end Go.Proofs.YtigpgnjgmaoejaaGreat

/- append onto an owned slice, and what the old slice holds behind it: what it held. Condition: the sum of the lengths is within the model's bound. -/
namespace Go.Proofs.YtigpgnjgmaoejaaGreat
open Go.RowKit

theorem own_prefix {w : World} {base : Nat} {e : TypeId} {s g n m cap : Nat} {xs ys : List Value} (h : w.ownsRow base e s (.slice (some ⟨g, 0, none⟩) (n + m) cap) (n + m) (xs ++ ys)) (hx : xs.length = n * s) :
    w.ownsRow base e s (.slice (some ⟨g, 0, none⟩) n cap) n xs := by
  refine ⟨hx, ?_⟩
  rcases h.2 with ⟨h0, _⟩ | ⟨g', cap', cur, hv, hb, hg, hn, hmx, hcs, ht⟩
  · cases h0
  · simp only [Value.slice.injEq, Option.some.injEq, Addr.mk.injEq, and_true, true_and] at hv
    obtain ⟨rfl, rfl⟩ := hv
    refine .inr ⟨g, cap, cur, rfl, hb, hg, by omega, hmx, hcs, ?_⟩
    have h3 : cur.toList.take (n * s) = (cur.toList.take ((n + m) * s)).take (n * s) := by
      rw [List.take_take, Nat.min_eq_left (Nat.mul_le_mul_right _ (by omega))]
    rw [h3, ht, ← hx]
    exact List.take_left

section
variable {P : Program} {w : World}

theorem run_append_keep (t ty : TypeId) (base : Nat) (e : TypeId) (i : TypeInfo) (z : Value) (size bytes : Nat) (ht : P.underlying t = some (.slice e)) (hi : P.info? e = some i) (hz : i.zero = some z)
    (hsize : i.size = size) (hby : i.bytes = bytes) (hzs : z.cells.size = size) (hsz : 0 < size)
    (v : Value) (n : Nat) (xs : List Value) (hown : w.ownsRow base e size v n xs)
    (ad : Addr) (m c : Nat) (news : List Value) (hl : news.length = m * size) (hnews : ∀ j u, news[j]? = some u → w.cell? (ad.add j) = some u) (h1 : ∀ u ∈ news, u.oneCell' = true)
    (hm : 0 < m) (h63 : n + m ≤ maxLen) (hbytes : (n + m) * bytes ≤ 140737488355328) (hbase : base ≤ w.heap.size) :
    ∃ g cap w', (Builtin.append_ #[t, t] ty #[v, .slice (some ad) m c]).run P w = .ok (.slice (some ⟨g, 0, none⟩) (n + m) cap) w' ∧
      w'.ownsRow base e size (.slice (some ⟨g, 0, none⟩) (n + m) cap) (n + m) (xs ++ news) ∧ w'.ownsRow base e size v n xs ∧
      ((v = .slice (some ⟨g, 0, none⟩) n cap ∧ Fr (OwnS v) w w') ∨ (g = w.heap.size ∧ Fr No w w')) ∧ g < w'.heap.size := by
  obtain ⟨g, cap, w', hr, h2, h3, _, h5⟩ := run_append_lies (P := P) w t ty base e i z size bytes ht hi hz hsize hby hzs hsz v n xs hown ad m c news hl hnews h1 hm h63 hbytes hbase _ rfl
  refine ⟨g, cap, w', hr, h2, ?_⟩
  subst hsize
  subst hby
  have h63' : n + m ≤ 9223372036854775807 := by simp only [maxLen] at h63; omega
  rcases hown.2 with ⟨rfl, rfl⟩ | ⟨g0, cap0, cur, rfl, hb0, hg0, hn0, hm0, hcs0, ht0⟩
  · have hr2 := run_append_nil (P := P) w t ty e i z ht hi hz ad m c news hl hnews hm (by omega) (by have hb := hbytes; simp only [Nat.zero_add] at hb; omega)
    rw [hr] at hr2
    simp only [Result.ok.injEq, Value.slice.injEq, Option.some.injEq, Addr.mk.injEq, and_true] at hr2
    obtain ⟨⟨rfl, _, _⟩, rfl⟩ := hr2
    exact ⟨own_fr (S := No) hown ((Fr.refl _ _).drew.alloc _) (fun _ _ => id), .inr ⟨rfl, (Fr.refl _ _).drew.alloc _⟩, h5⟩
  · by_cases hroom : n + m ≤ cap0
    · have hfit : n * i.size + news.length ≤ cur.size := by rw [hl, hcs0, ← Nat.add_mul]; exact Nat.mul_le_mul_right _ hroom
      have hr2 := run_append_room (P := P) w t ty e i ht hi g0 n cap0 cur hg0 ad m c news hl hnews h1 hroom hfit
      rw [hr] at hr2
      simp only [Result.ok.injEq, Value.slice.injEq, Option.some.injEq, Addr.mk.injEq, and_true, true_and] at hr2
      obtain ⟨⟨rfl, rfl⟩, _⟩ := hr2
      exact ⟨own_prefix h2 hown.1, .inl ⟨rfl, fr_of_grown h3⟩, h5⟩
    · have hr2 := run_append_grow (P := P) w t ty e i z ht hi hz ⟨g0, 0, none⟩ n cap0 xs hown.1 (hown.cells rfl) ad m c news hl hnews (by omega) (by omega) (growslice_fits (by omega) hbytes)
      rw [hr] at hr2
      simp only [Result.ok.injEq, Value.slice.injEq, Option.some.injEq, Addr.mk.injEq, and_true, true_and] at hr2
      obtain ⟨⟨rfl, _⟩, rfl⟩ := hr2
      exact ⟨own_fr (S := No) hown ((Fr.refl _ _).drew.alloc _) (fun _ _ => id), .inr ⟨rfl, (Fr.refl _ _).drew.alloc _⟩, h5⟩

theorem wp_append_keep {o : Oper} {a : Act} {K : Act → World → Prop} {Q : Exit → Act → World → Prop} (s x : Operand) (t : TypeId)
    (ho : o.op = .call { callee := .builtin .append, args := #[s, x], argTypes := #[t, t] })
    (base : Nat) (e : TypeId) (i : TypeInfo) (z : Value) (size bytes : Nat) (ht : P.underlying t = some (.slice e)) (hi : P.info? e = some i) (hz : i.zero = some z)
    (hsize : i.size = size) (hby : i.bytes = bytes) (hzs : z.cells.size = size) (hsz : 0 < size)
    (v : Value) (n : Nat) (xs : List Value) (hown : w.ownsRow base e size v n xs) (hs : a.eval s = v)
    (ad : Addr) (m c : Nat) (news : List Value) (hx : a.eval x = .slice (some ad) m c) (hl : news.length = m * size) (hnews : ∀ j u, news[j]? = some u → w.cell? (ad.add j) = some u) (h1 : ∀ u ∈ news, u.oneCell' = true)
    (hm : 0 < m) (h63 : n + m ≤ maxLen) (hbytes : (n + m) * bytes ≤ 140737488355328) (hbase : base ≤ w.heap.size)
    (h : ∀ g cap w', w'.ownsRow base e size (.slice (some ⟨g, 0, none⟩) (n + m) cap) (n + m) (xs ++ news) → w'.ownsRow base e size v n xs →
      ((v = .slice (some ⟨g, 0, none⟩) n cap ∧ Fr (OwnS v) w w') ∨ (g = w.heap.size ∧ Fr No w w')) → g < w'.heap.size → K (a.put o.dst (.slice (some ⟨g, 0, none⟩) (n + m) cap)) w') : o.wp P a w K Q := by
  obtain ⟨g, cap, w', hr, h2, h3, h4, h5⟩ := run_append_keep (P := P) (w := w) t o.type base e i z size bytes ht hi hz hsize hby hzs hsz v n xs hown ad m c news hl hnews h1 hm h63 hbytes hbase
  unfold Oper.wp execOp
  simp only [ho, resolve, invoke, builtin, Sem.run_bind, Sem.run_pure, Result.andThen_ok, List.map_toArray, List.map_cons, List.map_nil, hs, hx, hr]
  exact h g cap w' h2 h3 h4 h5
end

/-- A slice of single cells (numbers, slices), as they stand in it. -/
def Cs (w : World) (base : Nat) (e : TypeId) (v : Value) (xs : List Value) : Prop := w.ownsRow base e 1 v xs.length xs

section
variable {w : World} {o : Oper} {a : Act}

theorem keep_ev {ops : Array Oper} {rest : List Oper} {Q : Exit → Act → World → Prop} (hgd : o.guard = none) (s x : Operand) (ho : o.op = .call { callee := .builtin .append, args := #[s, x], argTypes := #[38, 38] })
    (base : Nat) (v : Value) (L : List Ev) (hown : Es w base v L) (hs : a.eval s = v)
    (ad : Addr) (m c : Nat) (N : List Ev) (hx : a.eval x = .slice (some ad) m c) (hm : m = N.length) (hN : 0 < N.length) (hnews : ∀ j u, (N.flatMap Ev.cells)[j]? = some u → w.cell? (ad.add j) = some u)
    (hb : L.length + N.length ≤ 1000000) (hbase : base ≤ w.heap.size)
    (h : ∀ g cap w', Es w' base (.slice (some ⟨g, 0, none⟩) (L.length + m) cap) (L ++ N) → Es w' base v L → ((v = .slice (some ⟨g, 0, none⟩) L.length cap ∧ Fr (OwnS v) w w') ∨ (g = w.heap.size ∧ Fr No w w')) → g < w'.heap.size →
      wpList Tryz.prog ops Q rest (a.put o.dst (.slice (some ⟨g, 0, none⟩) (L.length + m) cap)) w') : wpList Tryz.prog ops Q (o :: rest) a w := by
  subst hm
  obtain ⟨i0, hi, hz0, hz1, hz2⟩ := info_parts infoEv
  refine wpList_plain hgd fun _ hK => wp_append_keep s x 38 ho base 42 i0 zOrd 6 48 Tryz.underlying38 hi hz0 hz1 hz2 rfl (by decide) v L.length _ hown hs ad N.length c _ hx (flat_len Ev.len N) hnews (flat_one es_one N) hN (by unfold maxLen; omega) (by omega) hbase ?_
  intro g cap w' h2 h3 h4 h5
  exact hK _ _ (h g cap w' (by unfold Es; rw [List.length_append, List.flatMap_append]; exact h2) h3 h4 h5)

theorem keep_lev {ops : Array Oper} {rest : List Oper} {Q : Exit → Act → World → Prop} (hgd : o.guard = none) (s x : Operand) (ho : o.op = .call { callee := .builtin .append, args := #[s, x], argTypes := #[98, 98] })
    (base : Nat) (v : Value) (L : List Lev) (hown : Ls w base v L) (hs : a.eval s = v)
    (ad : Addr) (m c : Nat) (N : List Lev) (hx : a.eval x = .slice (some ad) m c) (hm : m = N.length) (hN : 0 < N.length) (hnews : ∀ j u, (N.flatMap Lev.cells)[j]? = some u → w.cell? (ad.add j) = some u)
    (hb : L.length + N.length ≤ 1000000) (hbase : base ≤ w.heap.size)
    (h : ∀ g cap w', Ls w' base (.slice (some ⟨g, 0, none⟩) (L.length + m) cap) (L ++ N) → Ls w' base v L → ((v = .slice (some ⟨g, 0, none⟩) L.length cap ∧ Fr (OwnS v) w w') ∨ (g = w.heap.size ∧ Fr No w w')) → g < w'.heap.size →
      wpList Tryz.prog ops Q rest (a.put o.dst (.slice (some ⟨g, 0, none⟩) (L.length + m) cap)) w') : wpList Tryz.prog ops Q (o :: rest) a w := by
  subst hm
  obtain ⟨i0, hi, hz0, hz1, hz2⟩ := info_parts infoLev
  refine wpList_plain hgd fun _ hK => wp_append_keep s x 98 ho base 97 i0 zLev 3 24 Tryz.underlying98 hi hz0 hz1 hz2 rfl (by decide) v L.length _ hown hs ad N.length c _ hx (flat_len Lev.len N) hnews (flat_one ls_one N) hN (by unfold maxLen; omega) (by omega) hbase ?_
  intro g cap w' h2 h3 h4 h5
  exact hK _ _ (h g cap w' (by unfold Ls; rw [List.length_append, List.flatMap_append]; exact h2) h3 h4 h5)

theorem cs_wp {K : Act → World → Prop} {Q : Exit → Act → World → Prop} {t e : TypeId} {z : Value} {by_ : Nat} (info : (Tryz.prog.info? e).map (fun i => (i.zero, i.size, i.bytes)) = some (some z, 1, by_)) (und : Tryz.prog.underlying t = some (.slice e)) (hz : z.cells.size = 1)
    (s x : Operand) (ho : o.op = .call { callee := .builtin .append, args := #[s, x], argTypes := #[t, t] })
    (base : Nat) (v : Value) (L : List Value) (hown : Cs w base e v L) (hs : a.eval s = v)
    (ad : Addr) (m c : Nat) (N : List Value) (hx : a.eval x = .slice (some ad) m c) (hm : m = N.length) (hN : 0 < N.length) (hnews : ∀ j u, N[j]? = some u → w.cell? (ad.add j) = some u) (h1 : ∀ u ∈ N, u.oneCell' = true)
    (hb : (L.length + N.length) * by_ ≤ 140737488355328) (hb2 : L.length + N.length ≤ 140737488355328) (hbase : base ≤ w.heap.size)
    (h : ∀ g cap w', Cs w' base e (.slice (some ⟨g, 0, none⟩) (L.length + m) cap) (L ++ N) → Fr (OwnS v) w w' → (v.ownBlock = some g ∨ g = w.heap.size) → g < w'.heap.size → K (a.put o.dst (.slice (some ⟨g, 0, none⟩) (L.length + m) cap)) w') : o.wp Tryz.prog a w K Q := by
  subst hm
  obtain ⟨i0, hi, hz0, hz1, hz2⟩ := info_parts info
  refine wp_append_lies w s x t ho base e i0 z 1 by_ und hi hz0 hz1 hz2 hz (by decide) v L.length _ hs hown ad N.length c _ hx (by simp) hnews h1 hN (by unfold maxLen; omega) hb hbase _ rfl ?_
  intro g cap w' h2 h3 h4 h5
  exact h g cap w' (by unfold Cs; rw [List.length_append]; exact h2) (fr_of_grown h3) h4 h5

theorem cs_list {ops : Array Oper} {rest : List Oper} {Q : Exit → Act → World → Prop} {t e : TypeId} {z : Value} {by_ : Nat} (info : (Tryz.prog.info? e).map (fun i => (i.zero, i.size, i.bytes)) = some (some z, 1, by_)) (und : Tryz.prog.underlying t = some (.slice e)) (hz : z.cells.size = 1)
    (hgd : o.guard = none) (s x : Operand) (ho : o.op = .call { callee := .builtin .append, args := #[s, x], argTypes := #[t, t] })
    (base : Nat) (v : Value) (L : List Value) (hown : Cs w base e v L) (hs : a.eval s = v)
    (ad : Addr) (m c : Nat) (N : List Value) (hx : a.eval x = .slice (some ad) m c) (hm : m = N.length) (hN : 0 < N.length) (hnews : ∀ j u, N[j]? = some u → w.cell? (ad.add j) = some u) (h1 : ∀ u ∈ N, u.oneCell' = true)
    (hb : (L.length + N.length) * by_ ≤ 140737488355328) (hb2 : L.length + N.length ≤ 140737488355328) (hbase : base ≤ w.heap.size)
    (h : ∀ g cap w', Cs w' base e (.slice (some ⟨g, 0, none⟩) (L.length + m) cap) (L ++ N) → Fr (OwnS v) w w' → (v.ownBlock = some g ∨ g = w.heap.size) → g < w'.heap.size → wpList Tryz.prog ops Q rest (a.put o.dst (.slice (some ⟨g, 0, none⟩) (L.length + m) cap)) w') : wpList Tryz.prog ops Q (o :: rest) a w :=
  wpList_plain hgd fun _ hK => cs_wp info und hz s x ho base v L hown hs ad m c N hx hm hN hnews h1 hb hb2 hbase fun g cap w' h2 h3 h4 h5 => hK _ _ (h g cap w' h2 h3 h4 h5)

theorem cs_step {ops : Array Oper} {K : Act → World → Prop} {Q : Exit → Act → World → Prop} {E : Prop} {t e : TypeId} {z : Value} {by_ : Nat} (info : (Tryz.prog.info? e).map (fun i => (i.zero, i.size, i.bytes)) = some (some z, 1, by_)) (und : Tryz.prog.underlying t = some (.slice e)) (hz : z.cells.size = 1)
    (hgd : o.guard = none) (s x : Operand) (ho : o.op = .call { callee := .builtin .append, args := #[s, x], argTypes := #[t, t] })
    (base : Nat) (v : Value) (L : List Value) (hown : Cs w base e v L) (hs : a.eval s = v)
    (ad : Addr) (m c : Nat) (N : List Value) (hx : a.eval x = .slice (some ad) m c) (hm : m = N.length) (hN : 0 < N.length) (hnews : ∀ j u, N[j]? = some u → w.cell? (ad.add j) = some u) (h1 : ∀ u ∈ N, u.oneCell' = true)
    (hb : (L.length + N.length) * by_ ≤ 140737488355328) (hb2 : L.length + N.length ≤ 140737488355328) (hbase : base ≤ w.heap.size)
    (h : ∀ g cap w', Cs w' base e (.slice (some ⟨g, 0, none⟩) (L.length + m) cap) (L ++ N) → Fr (OwnS v) w w' → (v.ownBlock = some g ∨ g = w.heap.size) → g < w'.heap.size → K (a.put o.dst (.slice (some ⟨g, 0, none⟩) (L.length + m) cap)) w') : if Region.wanted o (yielded ops a.tmps) = true then Oper.wp Tryz.prog o a w K Q else E := by
  have hw : Region.wanted o (yielded ops a.tmps) = true := by simp [Region.wanted, hgd]
  rw [if_pos hw]
  exact cs_wp info und hz s x ho base v L hown hs ad m c N hx hm hN hnews h1 hb hb2 hbase h
end

end Go.Proofs.YtigpgnjgmaoejaaGreat

/- The document's pit with a list of orders, in which nothing trades. No condition. -/
namespace Go.Proofs.YtigpgnjgmaoejaaGreat
def refNil (L : List Ord) : Ref := ⟨L, fun _ => false, fun _ => 0⟩
end Go.Proofs.YtigpgnjgmaoejaaGreat
