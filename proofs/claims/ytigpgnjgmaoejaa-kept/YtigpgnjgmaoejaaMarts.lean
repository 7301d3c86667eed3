/- Plain mathematics: what the program's commands come to, book by book, each side a sorted list (St, sDo). No condition. -/
import Derived.Test.YtigpgnjgmaoejaaSides
import Derived.Test.YtigpgnjgmaoejaaRefQ
namespace Go.Proofs.Ytigpgnjgmaoejaa

def upd {α : Type} (f : Nat → α) (j : Nat) (x : α) : Nat → α := fun k => if k = j then x else f k
theorem upd_self {α : Type} (f : Nat → α) (j : Nat) (x : α) : upd f j x j = x := by simp [upd]
theorem upd_other {α : Type} {f : Nat → α} {j k : Nat} {x : α} (h : k ≠ j) : upd f j x k = f k := by simp [upd, h]

def putO (sd : Int) (x : Ord) (M : List Ord) : List Ord := M.take (placeO sd x.price M) ++ x :: M.drop (placeO sd x.price M)
/-- The book with one order more. -/
def putM (x : Ord) (M : Nat → List Ord) : Nat → List Ord := fun j => if (j : Int) + 1 = x.side then putO x.side x (M j) else M j
def getO (M : Nat → List Ord) (id : Int) : Option Ord :=
  match findO (M 0) id with
  | some k => (M 0)[k]?
  | none => match findO (M 1) id with
    | some k => (M 1)[k]?
    | none => none

def wrp (n : Int) : Int := IntKind.i64.wrap n

/-- Whether a resting price is to be had by an order of a kind. -/
def rch (kind s p q : Int) : Bool := kind == 2 || !beatsB (3 - s) p q
/-- What an order meets on the facing side, the best one first. -/
def meetP (rc : Int → Bool) (x : Ord) : List Ord → Int → Int → List Ev → List Ord × Int × Int × List Ev
  | [], t, o, E => ([], t, o, E)
  | y :: R, t, o, E =>
    if rc y.price = true ∧ 0 < o then
      if y.trader = x.trader then meetP rc x R t o (E ++ [goneO y])
      else if y.opn ≤ o then meetP rc x R (t + y.opn) (o - y.opn) (E ++ [tradedE x.id y.id y.price y.opn])
      else ({ y with opn := y.opn - o } :: R, t + o, 0, E ++ [tradedE x.id y.id y.price o])
    else (y :: R, t, o, E)

/-- How much is open on a side at a price, but for a trader's own. -/
def openAtO (sd p own : Int) (L : List Ord) : Int := ((L.filter fun o => !beatsB sd p o.price && o.trader != own).map Ord.opn).sum

/-- The place of the facing side. -/
def fj (s : Int) : Nat := if s = 1 then 1 else 0
def waitsB (kind : Int) : Bool := kind == 1 || kind == 5
def mismB (M : Nat → List Ord) (x : Ord) (kind : Int) : Bool :=
  if kind = 5 then decide (0 < openAtO (3 - x.side) x.price 0 (M (fj x.side)))
  else if kind = 4 then decide (openAtO (3 - x.side) x.price x.trader (M (fj x.side)) < x.opn)
  else false
/-- Why an order may not come in. -/
def barsB (tr : Bool) (M : Nat → List Ord) (x : Ord) (kind : Int) : Int :=
  if tr = false ∧ kind ≠ 1 then 6 else if mismB M x kind = true then 7 else if waitsB kind = true ∧ 200 ≤ (M 0).length + (M 1).length then 5 else 0

/-- What comes of an order that comes in: the sides, how much is traded, the events. -/
def meetB (tr : Bool) (M : Nat → List Ord) (x : Ord) (kind : Int) : List Ord × Int × Int × List Ev :=
  if tr = true then meetP (rch kind x.side x.price) x (M (fj x.side)) 0 x.opn [] else (M (fj x.side), 0, x.opn, [])
def enterB (tr : Bool) (M : Nat → List Ord) (x : Ord) (kind : Int) : (Nat → List Ord) × Int × List Ev :=
  let m := meetB tr M x kind
  let M1 := upd M (fj x.side) m.1
  if m.2.2.1 = 0 then (M1, m.2.1, takenE x.id x.opn :: m.2.2.2)
  else if waitsB kind = true then (putM { x with opn := m.2.2.1 } M1, m.2.1, takenE x.id x.opn :: m.2.2.2 ++ [restsE x.id x.price m.2.2.1])
  else (M1, m.2.1, takenE x.id x.opn :: m.2.2.2 ++ [goneE x.id m.2.2.1])

/-- All books: whether they trade, what they traded, what rests; and what all traded. -/
structure St where
  tr : Nat → Bool
  td : Nat → Int
  M : Nat → Nat → List Ord
  vol : Int

def St.enter (s : St) (k : Nat) (x : Ord) (kind : Int) : St × List Ev :=
  ({ s with td := upd s.td k (wrp (s.td k + (enterB (s.tr k) (s.M k) x kind).2.1)), M := upd s.M k (enterB (s.tr k) (s.M k) x kind).1, vol := wrp (s.vol + (enterB (s.tr k) (s.M k) x kind).2.1) }, (enterB (s.tr k) (s.M k) x kind).2.2)
def St.rem (s : St) (k : Nat) (id : Int) : St := { s with M := upd s.M k fun j => without id (s.M k j) }
def St.reop (s : St) (k : Nat) (id c : Int) : St := { s with M := upd s.M k fun j => (s.M k j).map (reopen id c) }

/-- The order with a number, in the first k books. -/
def getTo (s : St) (id : Int) : Nat → Option Ord
  | 0 => none
  | k + 1 => match getTo s id k with
    | some x => some x
    | none => getO (s.M k) id
def getAt (s : St) (id : Int) : Option Ord := getTo s id 8
def getOf (s : St) (t id : Int) : Option Ord := (getAt s id).bind fun x => if x.trader = t then some x else none
def bk (b : Int) : Nat := (b - 1).toNat

def ordOf (c : Cmd) : Ord := ⟨c.id, c.trader, c.book, c.side, c.price, c.count⟩
def sNew (s : St) (c : Cmd) : St × List Ev :=
  if newOk c = false then (s, [refusedE c.id 2])
  else if (getAt s c.id).isSome = true then (s, [refusedE c.id 3])
  else if barsB (s.tr (bk c.book)) (s.M (bk c.book)) (ordOf c) c.kind ≠ 0 then (s, [refusedE c.id (barsB (s.tr (bk c.book)) (s.M (bk c.book)) (ordOf c) c.kind)])
  else s.enter (bk c.book) (ordOf c) c.kind

def sCancel (s : St) (c : Cmd) : St × List Ev :=
  if (inB c.id 1 1000000000 && inB c.trader 1 1000) = false then (s, [refusedE c.id 2])
  else match getOf s c.trader c.id with
    | none => (s, [refusedE c.id 4])
    | some x => (s.rem (bk x.book) x.id, [goneO x])

def chOk (c : Cmd) : Bool := inB c.id 1 1000000000 && inB c.trader 1 1000 && (inB c.price 1 1000000 && inB c.count 1 1000000)
def St.replace (s : St) (x : Ord) (p n : Int) : St × List Ev :=
  (((s.rem (bk x.book) x.id).enter (bk x.book) { x with price := p, opn := n } 1).1, goneO x :: ((s.rem (bk x.book) x.id).enter (bk x.book) { x with price := p, opn := n } 1).2)
def sChange (s : St) (c : Cmd) : St × List Ev :=
  if chOk c = false then (s, [refusedE c.id 2])
  else match getOf s c.trader c.id with
    | none => (s, [refusedE c.id 4])
    | some x => if c.price = x.price ∧ c.count ≤ x.opn then (s.reop (bk x.book) x.id c.count, [restsE x.id x.price c.count]) else s.replace x c.price c.count

def ofT2 (M : Nat → List Ord) (t : Int) : List Ord := (M 0).filter (isOf t) ++ (M 1).filter (isOf t)
def St.dropT (s : St) (t : Int) : St := { s with M := fun k j => (s.M k j).filter fun o => !isOf t o }
def sCancelAll (s : St) (c : Cmd) : St × List Ev :=
  if inB c.trader 1 1000 = false then (s, [refusedE 0 2])
  else (s.dropT c.trader, ((List.range 8).flatMap fun k => ofT2 (s.M k) c.trader).map goneO)

/-- The numbers of an order may be. -/
structure OrdOk (o : Ord) : Prop where
  opn : 1 ≤ o.opn ∧ o.opn ≤ 1000000
  price : 1 ≤ o.price ∧ o.price ≤ 1000000
  trader : 1 ≤ o.trader ∧ o.trader ≤ 1000
  id : 1 ≤ o.id ∧ o.id ≤ 1000000000

/-- No number twice in a book. -/
def Uniq (M : Nat → List Ord) : Prop := ((M 0).map Ord.id ++ (M 1).map Ord.id).Nodup

/-- A book is as it should be. -/
structure BkOk (k : Nat) (M : Nat → List Ord) : Prop where
  ord : ∀ j : Nat, j < 2 → ∀ o ∈ M j, OrdOk o ∧ o.book = (k : Int) + 1 ∧ o.side = (j : Int) + 1
  srt : ∀ j : Nat, j < 2 → Srt ((j : Int) + 1) (M j)
  ids : Uniq M
  cap : (M 0).length + (M 1).length ≤ 200

structure WF (s : St) : Prop where
  book : ∀ k, k < 8 → BkOk k (s.M k)
  td : ∀ k, k < 8 → wrp (s.td k) = s.td k
  vol : wrp s.vol = s.vol
end Go.Proofs.Ytigpgnjgmaoejaa

/- Plain mathematics: books stay as they should be under the program's commands; in a book that trades nothing rests that could trade. No condition. -/
namespace Go.Proofs.Ytigpgnjgmaoejaa

/-- All of an order but for what is open. -/
def key (o : Ord) : Int × Int × Int × Int × Int := (o.id, o.trader, o.book, o.side, o.price)
/-- Some of the orders, some of them with less open. -/
def SubL (L L' : List Ord) : Prop := (L'.map key).Sublist (L.map key) ∧ ∀ y ∈ L', 1 ≤ y.opn ∧ y.opn ≤ 1000000

theorem SubL.refl {L : List Ord} (h : ∀ y ∈ L, 1 ≤ y.opn ∧ y.opn ≤ 1000000) : SubL L L := ⟨List.Sublist.refl _, h⟩
theorem SubL.trans {A B C : List Ord} (h : SubL A B) (k : SubL B C) : SubL A C := ⟨k.1.trans h.1, k.2⟩
theorem SubL.ids {L L' : List Ord} (h : SubL L L') : (L'.map Ord.id).Sublist (L.map Ord.id) := by
  have := h.1.map (fun q : Int × Int × Int × Int × Int => q.1)
  simpa [List.map_map, Function.comp_def, key] using this
theorem SubL.prices {L L' : List Ord} (h : SubL L L') : (L'.map Ord.price).Sublist (L.map Ord.price) := by
  have := h.1.map (fun q : Int × Int × Int × Int × Int => q.2.2.2.2)
  simpa [List.map_map, Function.comp_def, key] using this
theorem SubL.mem {L L' : List Ord} (h : SubL L L') {y : Ord} (hy : y ∈ L') : ∃ z ∈ L, key y = key z := by
  have := h.1.subset (List.mem_map_of_mem (f := key) hy)
  obtain ⟨z, hz, e⟩ := List.mem_map.1 this
  exact ⟨z, hz, e.symm⟩
theorem SubL.len {L L' : List Ord} (h : SubL L L') : L'.length ≤ L.length := by
  have := h.1.length_le
  simpa using this
theorem srt_price {s : Int} {L : List Ord} : Srt s L ↔ (L.map Ord.price).Pairwise fun a b => beatsB s b a = false := by
  unfold Srt
  rw [List.pairwise_map]
theorem SubL.srt {s : Int} {L L' : List Ord} (h : SubL L L') (k : Srt s L) : Srt s L' := srt_price.2 ((srt_price.1 k).sublist h.prices)
theorem SubL.filter {L : List Ord} (h : ∀ y ∈ L, 1 ≤ y.opn ∧ y.opn ≤ 1000000) (p : Ord → Bool) : SubL L (L.filter p) :=
  ⟨List.filter_sublist.map key, fun y hy => h y (List.mem_filter.1 hy).1⟩
theorem SubL.reopen {L : List Ord} (h : ∀ y ∈ L, 1 ≤ y.opn ∧ y.opn ≤ 1000000) {id c : Int} (hc : 1 ≤ c ∧ c ≤ 1000000) : SubL L (L.map (reopen id c)) := by
  refine ⟨?_, fun y hy => ?_⟩
  · rw [List.map_map]
    have : (key ∘ Go.Proofs.Ytigpgnjgmaoejaa.reopen id c) = key := by
      funext o
      simp only [Function.comp, Go.Proofs.Ytigpgnjgmaoejaa.reopen, key]
      split <;> rfl
    rw [this]
    exact List.Sublist.refl _
  · obtain ⟨z, hz, rfl⟩ := List.mem_map.1 hy
    unfold Go.Proofs.Ytigpgnjgmaoejaa.reopen
    split
    · exact hc
    · exact h z hz

theorem BkOk.opns {k : Nat} {M : Nat → List Ord} (h : BkOk k M) {j : Nat} (hj : j < 2) : ∀ y ∈ M j, 1 ≤ y.opn ∧ y.opn ≤ 1000000 := fun y hy => (h.ord j hj y hy).1.opn
theorem BkOk.sub {k : Nat} {M M' : Nat → List Ord} (h : BkOk k M) (hs : ∀ j, j < 2 → SubL (M j) (M' j)) : BkOk k M' := by
  have s0 := hs 0 (by omega)
  have s1 := hs 1 (by omega)
  refine ⟨fun j hj o ho => ?_, fun j hj => (hs j hj).srt (h.srt j hj), ?_, ?_⟩
  · obtain ⟨z, hz, e⟩ := (hs j hj).mem ho
    have hk := h.ord j hj z hz
    have hop := (hs j hj).2 o ho
    simp only [key, Prod.mk.injEq] at e
    obtain ⟨e1, e2, e3, e4, e5⟩ := e
    exact ⟨⟨hop, by rw [e5]; exact hk.1.price, by rw [e2]; exact hk.1.trader, by rw [e1]; exact hk.1.id⟩, by rw [e3]; exact hk.2.1, by rw [e4]; exact hk.2.2⟩
  · exact h.ids.sublist (s0.ids.append s1.ids)
  · have := h.cap
    have := s0.len
    have := s1.len
    omega

/-- Nothing rests that could trade. -/
def Unx (M : Nat → List Ord) : Prop := ∀ a ∈ M 0, ∀ b ∈ M 1, a.price < b.price
theorem Unx.sub {M M' : Nat → List Ord} (h : Unx M) (hs : ∀ j, j < 2 → SubL (M j) (M' j)) : Unx M' := fun a ha b hb => by
  obtain ⟨a', ha', ea⟩ := (hs 0 (by omega)).mem ha
  obtain ⟨b', hb', eb⟩ := (hs 1 (by omega)).mem hb
  have := h a' ha' b' hb'
  simp only [key, Prod.mk.injEq] at ea eb
  rw [ea.2.2.2.2, eb.2.2.2.2]
  exact this

theorem insB_perm (s : Int) (x : Ord) : ∀ M : List Ord, (insB s x M).Perm (x :: M)
  | [] => List.Perm.refl _
  | y :: M => by
    unfold insB
    split
    · exact List.Perm.refl _
    · exact ((insB_perm s x M).cons y).trans (List.Perm.swap x y M)
theorem srt_insB {s : Int} {x : Ord} : ∀ {M : List Ord}, Srt s M → Srt s (insB s x M)
  | [], _ => List.pairwise_singleton _ _
  | y :: M, h => by
    obtain ⟨h1, h2⟩ := List.pairwise_cons.1 h
    unfold insB
    split
    · rename_i hb
      have hxy := bt_asym hb
      refine List.pairwise_cons.2 ⟨fun z hz => ?_, h⟩
      rcases List.mem_cons.1 hz with rfl | hz
      · exact hxy
      · exact nb_trans (h1 z hz) hxy
    · rename_i hb
      refine List.pairwise_cons.2 ⟨fun z hz => ?_, srt_insB h2⟩
      rcases List.mem_cons.1 ((insB_perm s x M).mem_iff.1 hz) with rfl | hz
      · simpa using hb
      · exact h1 z hz
theorem putO_insB {s : Int} {x : Ord} {M : List Ord} (h : Srt s M) : putO s x M = insB s x M := by
  rw [insB_place h]
  simp [putO]
theorem putO_perm {s : Int} {x : Ord} {M : List Ord} (h : Srt s M) : (putO s x M).Perm (x :: M) := by rw [putO_insB h]; exact insB_perm s x M
theorem putO_srt {s : Int} {x : Ord} {M : List Ord} (h : Srt s M) : Srt s (putO s x M) := by rw [putO_insB h]; exact srt_insB h

theorem BkOk.put {k : Nat} {M : Nat → List Ord} {x : Ord} (h : BkOk k M) (hx : OrdOk x) (hb : x.book = (k : Int) + 1) (hs : x.side = 1 ∨ x.side = 2) (hn : ∀ j, j < 2 → x.id ∉ (M j).map Ord.id) (hl : (M 0).length + (M 1).length < 200) : BkOk k (putM x M) := by
  have hp : ∀ j : Nat, j < 2 → (j : Int) + 1 = x.side → putM x M j = putO x.side x (M j) ∧ Srt x.side (M j) := fun j hj e => ⟨by simp [putM, e], by rw [← e]; exact h.srt j hj⟩
  have hq : ∀ j : Nat, ¬ (j : Int) + 1 = x.side → putM x M j = M j := fun j e => by simp [putM, e]
  have hc : ((0 : Nat) : Int) + 1 = x.side ∧ ¬ ((1 : Nat) : Int) + 1 = x.side ∨ ¬ ((0 : Nat) : Int) + 1 = x.side ∧ ((1 : Nat) : Int) + 1 = x.side := by omega
  refine ⟨fun j hj o ho => ?_, fun j hj => ?_, ?_, ?_⟩
  · by_cases e : (j : Int) + 1 = x.side
    · rw [(hp j hj e).1, (putO_perm (hp j hj e).2).mem_iff, List.mem_cons] at ho
      rcases ho with rfl | ho
      · exact ⟨hx, hb, e.symm⟩
      · exact h.ord j hj o ho
    · rw [hq j e] at ho
      exact h.ord j hj o ho
  · by_cases e : (j : Int) + 1 = x.side
    · rw [(hp j hj e).1, e]
      exact putO_srt (hp j hj e).2
    · rw [hq j e]
      exact h.srt j hj
  · unfold Uniq
    have h0 := hn 0 (by omega)
    have h1 := hn 1 (by omega)
    have hi := h.ids
    unfold Uniq at hi
    rcases hc with ⟨e0, e1⟩ | ⟨e0, e1⟩
    · rw [(hp 0 (by omega) e0).1, hq 1 e1]
      have hpm : ((putO x.side x (M 0)).map Ord.id ++ (M 1).map Ord.id).Perm (x.id :: ((M 0).map Ord.id ++ (M 1).map Ord.id)) := ((putO_perm (hp 0 (by omega) e0).2).map Ord.id).append_right _
      rw [hpm.nodup_iff, List.nodup_cons]
      exact ⟨fun hm => (List.mem_append.1 hm).elim h0 h1, hi⟩
    · rw [hq 0 e0, (hp 1 (by omega) e1).1]
      have hpm : ((M 0).map Ord.id ++ (putO x.side x (M 1)).map Ord.id).Perm (x.id :: ((M 0).map Ord.id ++ (M 1).map Ord.id)) :=
        (((putO_perm (hp 1 (by omega) e1).2).map Ord.id).append_left _).trans List.perm_middle
      rw [hpm.nodup_iff, List.nodup_cons]
      exact ⟨fun hm => (List.mem_append.1 hm).elim h0 h1, hi⟩
  · rcases hc with ⟨e0, e1⟩ | ⟨e0, e1⟩
    · rw [(hp 0 (by omega) e0).1, hq 1 e1, (putO_perm (hp 0 (by omega) e0).2).length_eq, List.length_cons]
      omega
    · rw [hq 0 e0, (hp 1 (by omega) e1).1, (putO_perm (hp 1 (by omega) e1).2).length_eq, List.length_cons]
      omega

/-- What is left behind a meeting. -/
structure MetP (rc : Int → Bool) (L : List Ord) (t o : Int) (r : List Ord × Int × Int × List Ev) : Prop where
  sub : SubL L r.1
  sum : r.2.1 + r.2.2.1 = t + o
  left : 0 ≤ r.2.2.1 ∧ r.2.2.1 ≤ o
  stop : 0 < r.2.2.1 → ∀ y R, r.1 = y :: R → rc y.price = false
theorem meetP_spec {rc : Int → Bool} {x : Ord} : ∀ {L : List Ord} {t o : Int} {E : List Ev}, (∀ y ∈ L, 1 ≤ y.opn ∧ y.opn ≤ 1000000) → 0 ≤ o → MetP rc L t o (meetP rc x L t o E)
  | [], t, o, E, _, ho => ⟨SubL.refl (by simp), rfl, ⟨ho, Int.le_refl _⟩, fun _ y R h => by cases h⟩
  | y :: R, t, o, E, hL, ho => by
    have hR : ∀ z ∈ R, 1 ≤ z.opn ∧ z.opn ≤ 1000000 := fun z hz => hL z (List.mem_cons_of_mem _ hz)
    have hy := hL y (by simp)
    have up : ∀ {t' o' : Int} {r}, MetP rc R t' o' r → t' + o' = t + o → o' ≤ o → MetP rc (y :: R) t o r := fun h e l =>
      ⟨⟨by rw [List.map_cons]; exact h.sub.1.cons _, h.sub.2⟩, h.sum.trans e, ⟨h.left.1, Int.le_trans h.left.2 l⟩, h.stop⟩
    simp only [meetP]
    split
    · rename_i hgo
      split
      · exact up (meetP_spec hR ho) rfl (Int.le_refl _)
      · split
        · rename_i hle
          exact up (meetP_spec hR (by omega)) (by omega) (by omega)
        · rename_i hle
          refine ⟨⟨List.Sublist.refl _, fun z hz => ?_⟩, by simp only; omega, by simp only; omega, fun h => by simp only at h; omega⟩
          rcases List.mem_cons.1 hz with rfl | hz
          · simp only; omega
          · exact hR z hz
    · rename_i hno
      exact ⟨SubL.refl hL, rfl, ⟨ho, Int.le_refl _⟩, fun h z R' e => by
        obtain ⟨rfl, rfl⟩ := List.cons.inj e
        cases hr : rc y.price with
        | false => rfl
        | true => exact absurd ⟨hr, h⟩ hno⟩

theorem fj_lt (s : Int) : fj s < 2 := by unfold fj; split <;> omega
theorem fj_side {s : Int} (h : s = 1 ∨ s = 2) : ((fj s : Nat) : Int) + 1 = 3 - s := by rcases h with rfl | rfl <;> decide

theorem meetB_spec {tr : Bool} {M : Nat → List Ord} {x : Ord} {kind : Int} (hM : ∀ y ∈ M (fj x.side), 1 ≤ y.opn ∧ y.opn ≤ 1000000) (hx : 0 ≤ x.opn) :
    SubL (M (fj x.side)) (meetB tr M x kind).1 ∧ (meetB tr M x kind).2.1 + (meetB tr M x kind).2.2.1 = x.opn ∧ 0 ≤ (meetB tr M x kind).2.2.1 ∧ (meetB tr M x kind).2.2.1 ≤ x.opn ∧
      (tr = true → 0 < (meetB tr M x kind).2.2.1 → ∀ y R, (meetB tr M x kind).1 = y :: R → rch kind x.side x.price y.price = false) := by
  cases tr with
  | true =>
    have h := meetP_spec (rc := rch kind x.side x.price) (x := x) (t := 0) (o := x.opn) (E := []) hM hx
    have e : meetB true M x kind = meetP (rch kind x.side x.price) x (M (fj x.side)) 0 x.opn [] := by simp [meetB]
    rw [e]
    exact ⟨h.sub, by have := h.sum; omega, h.left.1, h.left.2, fun _ => h.stop⟩
  | false =>
    have e : meetB false M x kind = (M (fj x.side), 0, x.opn, []) := by simp [meetB]
    rw [e]
    exact ⟨SubL.refl hM, by simp, hx, Int.le_refl _, fun h => by cases h⟩

theorem sub_upd {M : Nat → List Ord} {k : Nat} {L' : List Ord} (hM : ∀ j, j < 2 → ∀ y ∈ M j, 1 ≤ y.opn ∧ y.opn ≤ 1000000) (h : SubL (M k) L') : ∀ j, j < 2 → SubL (M j) (upd M k L' j) := fun j hj => by
  by_cases e : j = k
  · subst e
    rw [upd_self]
    exact h
  · rw [upd_other e]
    exact SubL.refl (hM j hj)

/-- What an order that comes in must be. -/
structure Comes (k : Nat) (M : Nat → List Ord) (x : Ord) (kind : Int) : Prop where
  opn : 1 ≤ x.opn ∧ x.opn ≤ 1000000
  price : kind = 2 ∨ 1 ≤ x.price ∧ x.price ≤ 1000000
  trader : 1 ≤ x.trader ∧ x.trader ≤ 1000
  id : 1 ≤ x.id ∧ x.id ≤ 1000000000
  book : x.book = (k : Int) + 1
  side : x.side = 1 ∨ x.side = 2
  new : ∀ j, j < 2 → x.id ∉ (M j).map Ord.id
  room : waitsB kind = true → (M 0).length + (M 1).length < 200

theorem waits_not2 {kind : Int} (h : waitsB kind = true) : kind ≠ 2 := by
  rintro rfl
  simp [waitsB] at h

theorem enterB_ok {k : Nat} {tr : Bool} {M : Nat → List Ord} {x : Ord} {kind : Int} (h : BkOk k M) (hx : Comes k M x kind) : BkOk k (enterB tr M x kind).1 ∧ (tr = true → Unx M → Unx (enterB tr M x kind).1) := by
  have hop : ∀ j, j < 2 → ∀ y ∈ M j, 1 ≤ y.opn ∧ y.opn ≤ 1000000 := fun j hj => h.opns hj
  obtain ⟨hsub, hsum, hl0, hl1, hst⟩ := meetB_spec (tr := tr) (kind := kind) (hop _ (fj_lt x.side)) (by have := hx.opn; omega)
  have hsu := sub_upd hop hsub
  have h1 : BkOk k (upd M (fj x.side) (meetB tr M x kind).1) := h.sub hsu
  unfold enterB
  simp only
  split
  · exact ⟨h1, fun _ hu => hu.sub hsu⟩
  · rename_i hz
    split
    · rename_i hw
      have hlen : ∀ j, j < 2 → (upd M (fj x.side) (meetB tr M x kind).1 j).length ≤ (M j).length := fun j hj => (hsu j hj).len
      refine ⟨h1.put ⟨by simp only; have := hx.opn; omega, ?_, hx.trader, hx.id⟩ hx.book hx.side (fun j hj hm => hx.new j hj ((hsu j hj).ids.subset hm)) ?_, fun htr hu => ?_⟩
      · exact hx.price.resolve_left (waits_not2 hw)
      · have := hx.room hw
        have := hlen 0 (by omega)
        have := hlen 1 (by omega)
        omega
      · have hu1 := hu.sub hsu
        have hf : ∀ y ∈ upd M (fj x.side) (meetB tr M x kind).1 (fj x.side), beatsB (3 - x.side) x.price y.price = true := by
          rw [upd_self]
          have hsrt : Srt (3 - x.side) (meetB tr M x kind).1 := hsub.srt (by rw [← fj_side hx.side]; exact h.srt _ (fj_lt _))
          have hstop := hst htr (by omega)
          intro y hy
          cases hF : (meetB tr M x kind).1 with
          | nil => rw [hF] at hy; cases hy
          | cons z R =>
            have hz2 := hstop z R hF
            have hkk := waits_not2 hw
            have hbz : beatsB (3 - x.side) x.price z.price = true := by
              simp only [rch, Bool.or_eq_false_iff, Bool.not_eq_false'] at hz2
              exact hz2.2
            rw [hF] at hy hsrt
            obtain ⟨hs1, _⟩ := List.pairwise_cons.1 hsrt
            rcases List.mem_cons.1 hy with rfl | hy
            · exact hbz
            · have hnb := hs1 y hy
              rcases hx.side with e | e <;> rw [e] at hnb hbz ⊢ <;> simp only [beatsB, Bool.or_eq_false_iff, Bool.and_eq_false_iff, beq_eq_false_iff_ne, decide_eq_false_iff_not, ne_eq, Bool.or_eq_true, Bool.and_eq_true, beq_iff_eq, decide_eq_true_eq] at hnb hbz ⊢ <;> omega
        generalize hG : upd M (fj x.side) (meetB tr M x kind).1 = G at *
        intro a ha b hb
        simp only at ha hb
        rcases hx.side with e | e
        · have hp0 : putM { x with opn := (meetB tr M x kind).2.2.1 } G 0 = putO 1 { x with opn := (meetB tr M x kind).2.2.1 } (G 0) := by simp [putM, e]
          have hp1 : putM { x with opn := (meetB tr M x kind).2.2.1 } G 1 = G 1 := by simp [putM, e]
          rw [hp0, (putO_perm (s := 1) (h1.srt 0 (by omega))).mem_iff, List.mem_cons] at ha
          rw [hp1] at hb
          rcases ha with rfl | ha
          · have := hf b (by rw [e]; exact hb)
            rw [e] at this
            simp [beatsB] at this
            exact this
          · exact hu1 a ha b hb
        · have hp0 : putM { x with opn := (meetB tr M x kind).2.2.1 } G 0 = G 0 := by simp [putM, e]
          have hp1 : putM { x with opn := (meetB tr M x kind).2.2.1 } G 1 = putO 2 { x with opn := (meetB tr M x kind).2.2.1 } (G 1) := by simp [putM, e]
          rw [hp0] at ha
          rw [hp1, (putO_perm (s := 2) (h1.srt 1 (by omega))).mem_iff, List.mem_cons] at hb
          rcases hb with rfl | hb
          · have := hf a (by rw [e]; exact ha)
            rw [e] at this
            simp [beatsB] at this
            exact this
          · exact hu1 a ha b hb
    · exact ⟨h1, fun _ hu => hu.sub hsu⟩
end Go.Proofs.Ytigpgnjgmaoejaa

/- Plain mathematics: the commands New, Cancel, Change, CancelAll keep all books as they should be, and nothing comes to rest that could trade. No condition. -/
namespace Go.Proofs.Ytigpgnjgmaoejaa

theorem wrp_wrp (n : Int) : wrp (wrp n) = wrp n := by unfold wrp; rw [IntKind.wrap_i64, IntKind.wrap_i64]; omega

theorem getO_mem {M : Nat → List Ord} {id : Int} {x : Ord} (h : getO M id = some x) : x.id = id ∧ ∃ j, j < 2 ∧ x ∈ M j := by
  have hm : ∀ {L : List Ord} {i : Nat}, findO L id = some i → ∀ {y}, L[i]? = some y → y.id = id ∧ y ∈ L := fun {L} {i} hf {y} hy => by
    unfold findO at hf
    obtain ⟨hi, h1, _⟩ := List.findIdx?_eq_some_iff_getElem.1 hf
    rw [List.getElem?_eq_getElem hi] at hy
    cases hy
    exact ⟨by simpa using h1, List.getElem_mem hi⟩
  unfold getO at h
  split at h
  · rename_i i hi
    obtain ⟨a, b⟩ := hm hi h
    exact ⟨a, 0, by omega, b⟩
  · split at h
    · rename_i i hi
      obtain ⟨a, b⟩ := hm hi h
      exact ⟨a, 1, by omega, b⟩
    · cases h
theorem findO_not {L : List Ord} {id : Int} (h : findO L id = none) : id ∉ L.map Ord.id := by
  unfold findO at h
  rw [List.findIdx?_eq_none_iff] at h
  intro hm
  obtain ⟨o, ho, e⟩ := List.mem_map.1 hm
  have := h o ho
  simp [e] at this
theorem findO_some_lt {L : List Ord} {id : Int} {i : Nat} (h : findO L id = some i) : i < L.length := by
  unfold findO at h
  exact (List.findIdx?_eq_some_iff_getElem.1 h).1
theorem getO_not {M : Nat → List Ord} {id : Int} (h : getO M id = none) : ∀ j, j < 2 → id ∉ (M j).map Ord.id := by
  unfold getO at h
  split at h
  · rename_i i hi
    rw [List.getElem?_eq_getElem (findO_some_lt hi)] at h
    cases h
  · rename_i h0
    split at h
    · rename_i i hi
      rw [List.getElem?_eq_getElem (findO_some_lt hi)] at h
      cases h
    · rename_i h1
      intro j hj
      match j, hj with
      | 0, _ => exact findO_not h0
      | 1, _ => exact findO_not h1
theorem getTo_some {s : St} {id : Int} {x : Ord} : ∀ {n : Nat}, getTo s id n = some x → ∃ k, k < n ∧ getO (s.M k) id = some x
  | 0, h => by cases h
  | n + 1, h => by
    unfold getTo at h
    split at h
    · rename_i y hy
      cases h
      obtain ⟨k, hk, e⟩ := getTo_some hy
      exact ⟨k, by omega, e⟩
    · exact ⟨n, by omega, h⟩
theorem getTo_none {s : St} {id : Int} : ∀ {n : Nat}, getTo s id n = none → ∀ k, k < n → getO (s.M k) id = none
  | 0, _, k, hk => by omega
  | n + 1, h, k, hk => by
    unfold getTo at h
    split at h
    · cases h
    · rename_i hn
      by_cases e : k = n
      · subst e; exact h
      · exact getTo_none hn k (by omega)
theorem bk_of {x : Ord} {k : Nat} (h : x.book = (k : Int) + 1) : bk x.book = k := by unfold bk; omega
/-- Where an order that is found rests. -/
theorem getAt_in {s : St} {id : Int} {x : Ord} (hw : WF s) (h : getAt s id = some x) : x.id = id ∧ bk x.book < 8 ∧ x.book = ((bk x.book : Nat) : Int) + 1 ∧ getO (s.M (bk x.book)) id = some x ∧ ∃ j, j < 2 ∧ x ∈ s.M (bk x.book) j := by
  obtain ⟨k, hk, e⟩ := getTo_some h
  obtain ⟨h1, j, hj, hm⟩ := getO_mem e
  have := (hw.book k hk).ord j hj x hm
  have hb := bk_of this.2.1
  rw [hb]
  exact ⟨h1, hk, this.2.1, e, j, hj, hm⟩
theorem getOf_in {s : St} {t id : Int} {x : Ord} (hw : WF s) (h : getOf s t id = some x) : x.trader = t ∧ x.id = id ∧ bk x.book < 8 ∧ x.book = ((bk x.book : Nat) : Int) + 1 ∧ getO (s.M (bk x.book)) id = some x ∧ ∃ j, j < 2 ∧ x ∈ s.M (bk x.book) j := by
  unfold getOf at h
  cases hg : getAt s id with
  | none => rw [hg] at h; cases h
  | some y =>
    rw [hg] at h
    simp only [Option.bind_some] at h
    split at h
    · rename_i e
      cases h
      exact ⟨e, getAt_in hw hg⟩
    · cases h

/-- All is as it should be still. -/
structure Keeps (s s' : St) : Prop where
  wf : WF s'
  tr : s'.tr = s.tr
  unx : ∀ k, k < 8 → s.tr k = true → Unx (s.M k) → Unx (s'.M k)
theorem Keeps.refl {s : St} (h : WF s) : Keeps s s := ⟨h, rfl, fun _ _ _ h => h⟩
theorem Keeps.trans {a b c : St} (h : Keeps a b) (k : Keeps b c) : Keeps a c := ⟨k.wf, k.tr.trans h.tr, fun i hi ht hu => k.unx i hi (by rw [h.tr]; exact ht) (h.unx i hi ht hu)⟩

theorem keeps_sub {s : St} (h : WF s) {M' : Nat → Nat → List Ord} (hs : ∀ k, k < 8 → ∀ j, j < 2 → SubL (s.M k j) (M' k j)) : Keeps s { s with M := M' } :=
  ⟨⟨fun k hk => (h.book k hk).sub (hs k hk), h.td, h.vol⟩, rfl, fun k hk _ hu => hu.sub (hs k hk)⟩
theorem sub_one {s : St} (h : WF s) {i : Nat} {N : Nat → List Ord} (hs : i < 8 → ∀ j, j < 2 → SubL (s.M i j) (N j)) : ∀ k, k < 8 → ∀ j, j < 2 → SubL (s.M k j) (upd s.M i N k j) := fun k hk j hj => by
  by_cases e : k = i
  · subst e
    rw [upd_self]
    exact hs hk j hj
  · rw [upd_other e]
    exact SubL.refl ((h.book k hk).opns hj)
theorem rem_keeps {s : St} (h : WF s) (i : Nat) (id : Int) : Keeps s (s.rem i id) := keeps_sub h (sub_one h fun hi _ hj => SubL.filter ((h.book i hi).opns hj) _)
theorem reop_keeps {s : St} (h : WF s) (i : Nat) (id : Int) {c : Int} (hc : 1 ≤ c ∧ c ≤ 1000000) : Keeps s (s.reop i id c) := keeps_sub h (sub_one h fun hi _ hj => SubL.reopen ((h.book i hi).opns hj) hc)
theorem dropT_keeps {s : St} (h : WF s) (t : Int) : Keeps s (s.dropT t) := keeps_sub h fun k hk _ hj => SubL.filter ((h.book k hk).opns hj) _
theorem enter_keeps {s : St} (h : WF s) {k : Nat} (hk : k < 8) {x : Ord} {kind : Int} (hx : Comes k (s.M k) x kind) : Keeps s (s.enter k x kind).1 := by
  obtain ⟨h1, h2⟩ := enterB_ok (tr := s.tr k) (h.book k hk) hx
  refine ⟨⟨fun i hi => ?_, fun i hi => ?_, wrp_wrp _⟩, rfl, fun i hi ht hu => ?_⟩
  · simp only [St.enter]
    by_cases e : i = k
    · subst e
      rw [upd_self]
      exact h1
    · rw [upd_other e]
      exact h.book i hi
  · simp only [St.enter]
    by_cases e : i = k
    · subst e
      rw [upd_self]
      exact wrp_wrp _
    · rw [upd_other e]
      exact h.td i hi
  · simp only [St.enter]
    by_cases e : i = k
    · subst e
      rw [upd_self]
      exact h2 ht hu
    · rw [upd_other e]
      exact hu

theorem newOk_all {c : Cmd} (h : newOk c = true) : (1 ≤ c.id ∧ c.id ≤ 1000000000) ∧ (1 ≤ c.trader ∧ c.trader ≤ 1000) ∧ (1 ≤ c.book ∧ c.book ≤ 8) ∧ (c.side = 1 ∨ c.side = 2) ∧ (1 ≤ c.kind ∧ c.kind ≤ 5) ∧ (c.kind = 2 ∨ 1 ≤ c.price ∧ c.price ≤ 1000000) ∧ (1 ≤ c.count ∧ c.count ≤ 1000000) := by
  simp only [newOk, inB, sideOk, Bool.and_eq_true, Bool.or_eq_true, decide_eq_true_eq, beq_iff_eq] at h
  obtain ⟨⟨⟨⟨⟨⟨h1, h2⟩, h3⟩, h4⟩, h5⟩, h6⟩, h7⟩ := h
  exact ⟨h1, h2, h3, h4, h5, h6, h7⟩
theorem bars_room {tr : Bool} {M : Nat → List Ord} {x : Ord} {kind : Int} (h : barsB tr M x kind = 0) : waitsB kind = true → (M 0).length + (M 1).length < 200 := by
  intro hw
  unfold barsB at h
  split at h
  · omega
  · split at h
    · omega
    · split at h
      · omega
      · rename_i hn
        exact Nat.lt_of_not_le fun hl => hn ⟨hw, hl⟩
theorem sNew_comes {s : St} {c : Cmd} (hok : newOk c = true) (hg : getAt s c.id = none) (hb : barsB (s.tr (bk c.book)) (s.M (bk c.book)) (ordOf c) c.kind = 0) : bk c.book < 8 ∧ Comes (bk c.book) (s.M (bk c.book)) (ordOf c) c.kind := by
  obtain ⟨h1, h2, h3, h4, h5, h6, h7⟩ := newOk_all hok
  have hk : bk c.book < 8 := by unfold bk; omega
  exact ⟨hk, h7, h6, h2, h1, by show c.book = _; unfold bk; omega, h4, getO_not (getTo_none hg _ hk), bars_room hb⟩
theorem sNew_keeps {s : St} (h : WF s) (c : Cmd) : Keeps s (sNew s c).1 := by
  unfold sNew
  split
  · exact Keeps.refl h
  · rename_i hok
    split
    · exact Keeps.refl h
    · rename_i hg
      split
      · exact Keeps.refl h
      · rename_i hb
        obtain ⟨hk, hc⟩ := sNew_comes (by simpa using hok) (by simpa using hg) (by simpa using hb)
        exact enter_keeps h hk hc
theorem sCancel_keeps {s : St} (h : WF s) (c : Cmd) : Keeps s (sCancel s c).1 := by
  unfold sCancel
  split
  · exact Keeps.refl h
  · split
    · exact Keeps.refl h
    · exact rem_keeps h _ _
theorem chOk_all {c : Cmd} (h : chOk c = true) : (1 ≤ c.price ∧ c.price ≤ 1000000) ∧ (1 ≤ c.count ∧ c.count ≤ 1000000) := by
  simp only [chOk, inB, Bool.and_eq_true, decide_eq_true_eq] at h
  exact h.2
/-- An order that was taken out comes in anew. -/
theorem replace_comes {s : St} (h : WF s) {x : Ord} {t id : Int} (hg : getOf s t id = some x) {p n : Int} (hp : 1 ≤ p ∧ p ≤ 1000000) (hn : 1 ≤ n ∧ n ≤ 1000000) :
    bk x.book < 8 ∧ Comes (bk x.book) ((s.rem (bk x.book) x.id).M (bk x.book)) { x with price := p, opn := n } 1 := by
  obtain ⟨h1, h2, h3, h4, h5, j, hj, hm⟩ := getOf_in h hg
  have hB := h.book _ h3
  have ho := hB.ord j hj x hm
  have hM : (s.rem (bk x.book) x.id).M (bk x.book) = fun i => without x.id (s.M (bk x.book) i) := by simp [St.rem, upd_self]
  refine ⟨h3, hn, .inr hp, ho.1.trader, ho.1.id, h4, ?_, fun i hi hmem => ?_, fun _ => ?_⟩
  · have := ho.2.2; show x.side = 1 ∨ x.side = 2; omega
  · rw [hM] at hmem
    obtain ⟨y, hy, e⟩ := List.mem_map.1 hmem
    have := (List.mem_filter.1 hy).2
    simp only [bne_iff_ne, ne_eq] at this
    exact this e
  · rw [hM]
    have l0 : (without x.id (s.M (bk x.book) 0)).length ≤ (s.M (bk x.book) 0).length := List.length_filter_le _ _
    have l1 : (without x.id (s.M (bk x.book) 1)).length ≤ (s.M (bk x.book) 1).length := List.length_filter_le _ _
    have hlt : (without x.id (s.M (bk x.book) j)).length < (s.M (bk x.book) j).length := by
      unfold without
      rw [List.length_filter_lt_length_iff_exists]
      exact ⟨x, hm, by simp⟩
    have hc := hB.cap
    simp only
    match j, hj with
    | 0, _ => omega
    | 1, _ => omega
theorem sChange_keeps {s : St} (h : WF s) (c : Cmd) : Keeps s (sChange s c).1 := by
  unfold sChange
  split
  · exact Keeps.refl h
  · rename_i hok
    obtain ⟨hp, hn⟩ := chOk_all (by simpa using hok)
    split
    · exact Keeps.refl h
    · rename_i x hx
      split
      · exact reop_keeps h _ _ hn
      · obtain ⟨hk, hc⟩ := replace_comes h hx hp hn
        have h1 := rem_keeps h (bk x.book) x.id
        exact h1.trans (enter_keeps h1.wf hk hc)
theorem sCancelAll_keeps {s : St} (h : WF s) (c : Cmd) : Keeps s (sCancelAll s c).1 := by
  unfold sCancelAll
  split
  · exact Keeps.refl h
  · exact dropT_keeps h _
end Go.Proofs.Ytigpgnjgmaoejaa
